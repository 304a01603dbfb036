/- The whole points that two segments have in common, and how often they meet. -/
import Derived.Test.YtoehojopoajcaaaLaw3
import Derived.Test.YtoehojopoajcaaaHeld
namespace Go.Proofs.Ytoehojopoajcaaa
open Go.RowKit Go.Lib

set_option maxRecDepth 100000 in
set_option maxHeartbeats 64000000 in
theorem lattice_any (l0 l1 l2 l3 l4 l5 l6 l7 : Int) (w : World) :
    Calls Try.prog 6 #[.agg #[.int .i64 l0, .int .i64 l1, .int .i64 l2, .int .i64 l3, .int .i64 l4, .int .i64 l5, .int .i64 l6, .int .i64 l7]] w fun e w' => e = .returned (.bool true) ∧ Below w.heap.size w w' := by
  have C0 := has1 (w := w) [.int .i64 l0, .int .i64 l1, .int .i64 l2, .int .i64 l3, .int .i64 l4, .int .i64 l5, .int .i64 l6, .int .i64 l7] 39
  obtain ⟨x0, hx0⟩ : ∃ x, sm l0 = x := ⟨_, rfl⟩
  have bx0 := sm_bd l0
  rw [hx0] at bx0
  have Hhx0 := Lib.hid hx0
  clear hx0
  obtain ⟨d0, hd0⟩ : ∃ d, 2 * x0 = d := ⟨_, rfl⟩
  have ed0 : IntKind.i64.wrap (2 * x0) = d0 := hd0 ▸ IntWalk.i64_in _ (by omega)
  obtain ⟨x1, hx1⟩ : ∃ x, sm l1 = x := ⟨_, rfl⟩
  have bx1 := sm_bd l1
  rw [hx1] at bx1
  have Hhx1 := Lib.hid hx1
  clear hx1
  obtain ⟨d1, hd1⟩ : ∃ d, 2 * x1 = d := ⟨_, rfl⟩
  have ed1 : IntKind.i64.wrap (2 * x1) = d1 := hd1 ▸ IntWalk.i64_in _ (by omega)
  obtain ⟨x2, hx2⟩ : ∃ x, sm l2 = x := ⟨_, rfl⟩
  have bx2 := sm_bd l2
  rw [hx2] at bx2
  have Hhx2 := Lib.hid hx2
  clear hx2
  obtain ⟨d2, hd2⟩ : ∃ d, 2 * x2 = d := ⟨_, rfl⟩
  have ed2 : IntKind.i64.wrap (2 * x2) = d2 := hd2 ▸ IntWalk.i64_in _ (by omega)
  obtain ⟨x3, hx3⟩ : ∃ x, sm l3 = x := ⟨_, rfl⟩
  have bx3 := sm_bd l3
  rw [hx3] at bx3
  have Hhx3 := Lib.hid hx3
  clear hx3
  obtain ⟨d3, hd3⟩ : ∃ d, 2 * x3 = d := ⟨_, rfl⟩
  have ed3 : IntKind.i64.wrap (2 * x3) = d3 := hd3 ▸ IntWalk.i64_in _ (by omega)
  obtain ⟨x4, hx4⟩ : ∃ x, sm l4 = x := ⟨_, rfl⟩
  have bx4 := sm_bd l4
  rw [hx4] at bx4
  have Hhx4 := Lib.hid hx4
  clear hx4
  obtain ⟨d4, hd4⟩ : ∃ d, 2 * x4 = d := ⟨_, rfl⟩
  have ed4 : IntKind.i64.wrap (2 * x4) = d4 := hd4 ▸ IntWalk.i64_in _ (by omega)
  obtain ⟨x5, hx5⟩ : ∃ x, sm l5 = x := ⟨_, rfl⟩
  have bx5 := sm_bd l5
  rw [hx5] at bx5
  have Hhx5 := Lib.hid hx5
  clear hx5
  obtain ⟨d5, hd5⟩ : ∃ d, 2 * x5 = d := ⟨_, rfl⟩
  have ed5 : IntKind.i64.wrap (2 * x5) = d5 := hd5 ▸ IntWalk.i64_in _ (by omega)
  obtain ⟨x6, hx6⟩ : ∃ x, sm l6 = x := ⟨_, rfl⟩
  have bx6 := sm_bd l6
  rw [hx6] at bx6
  have Hhx6 := Lib.hid hx6
  clear hx6
  obtain ⟨d6, hd6⟩ : ∃ d, 2 * x6 = d := ⟨_, rfl⟩
  have ed6 : IntKind.i64.wrap (2 * x6) = d6 := hd6 ▸ IntWalk.i64_in _ (by omega)
  obtain ⟨x7, hx7⟩ : ∃ x, sm l7 = x := ⟨_, rfl⟩
  have bx7 := sm_bd l7
  rw [hx7] at bx7
  have Hhx7 := Lib.hid hx7
  clear hx7
  obtain ⟨d7, hd7⟩ : ∃ d, 2 * x7 = d := ⟨_, rfl⟩
  have ed7 : IntKind.i64.wrap (2 * x7) = d7 := hd7 ▸ IntWalk.i64_in _ (by omega)
  have HL0 := Lib.hid (show Geo.Lt x0 ∧ Geo.Lt x1 from ⟨bx0, bx1⟩)
  have HL1 := Lib.hid (show Geo.Lt x2 ∧ Geo.Lt x3 from ⟨bx2, bx3⟩)
  have HL2 := Lib.hid (show Geo.Lt x4 ∧ Geo.Lt x5 from ⟨bx4, bx5⟩)
  have HL3 := Lib.hid (show Geo.Lt x6 ∧ Geo.Lt x7 from ⟨bx6, bx7⟩)
  clear bx0 bx1 bx2 bx3 bx4 bx5 bx6 bx7
  have Hd0 := Lib.hid hd0
  have Hd1 := Lib.hid hd1
  have Hd2 := Lib.hid hd2
  have Hd3 := Lib.hid hd3
  clear hd0 hd1 hd2 hd3 hd4 hd5 hd6 hd7 ed4 ed5 ed6 ed7
  obtain ⟨f, hf⟩ : ∃ f : Int → Int → Bool, (fun x y => Geo.on x0 x1 x2 x3 x y && Geo.on x4 x5 x6 x7 x y) = f := ⟨_, rfl⟩
  have Hf := Lib.hid hf
  clear hf
  go_enter Try.func6, Try.ntmps6
  go_wp2_with fail
  change Has w _ (w.alloc (.cells #[.int .i64 l0, .int .i64 l1, .int .i64 l2, .int .i64 l3, .int .i64 l4, .int .i64 l5, .int .i64 l6, .int .i64 l7] 39)) at C0
  generalize w.alloc (.cells #[.int .i64 l0, .int .i64 l1, .int .i64 l2, .int .i64 l3, .int .i64 l4, .int .i64 l5, .int .i64 l6, .int .i64 l7] 39) = w0 at *
  refine (Has.call C0 (sane _)).mono ?_
  rintro e w1 ⟨rfl, C1⟩
  go_upto_region 3 with fail
  have C2 := C1.push [.int .i64 0, .int .i64 0, .int .i64 0, .int .i64 0, .int .i64 0, .int .i64 0, .int .i64 0, .int .i64 0] 39
  change Has w _ (w1.alloc (.cells #[.int .i64 0, .int .i64 0, .int .i64 0, .int .i64 0, .int .i64 0, .int .i64 0, .int .i64 0, .int .i64 0] 39)) at C2
  generalize w1.alloc (.cells #[.int .i64 0, .int .i64 0, .int .i64 0, .int .i64 0, .int .i64 0, .int .i64 0, .int .i64 0, .int .i64 0] 39) = w2 at *
  generalize w1.heap.size = A at *
  generalize hM : w.heap.size = M at *
  clear hM C0 C1
  have k0 := C2.tail.fact (.head _) (i := 0) rfl
  have k1 := C2.tail.fact (.head _) (i := 1) rfl
  have k2 := C2.tail.fact (.head _) (i := 2) rfl
  have k3 := C2.tail.fact (.head _) (i := 3) rfl
  have k4 := C2.tail.fact (.head _) (i := 4) rfl
  have k5 := C2.tail.fact (.head _) (i := 5) rfl
  have k6 := C2.tail.fact (.head _) (i := 6) rfl
  have k7 := C2.tail.fact (.head _) (i := 7) rfl
  have ix0 : ∀ w : World, (Instr.index 39 (.agg #[.int .i64 l0, .int .i64 l1, .int .i64 l2, .int .i64 l3, .int .i64 l4, .int .i64 l5, .int .i64 l6, .int .i64 l7]) (.int .i64 0)).run Try.prog w = .ok (.agg #[.int .i64 l0, .int .i64 l1]) w := fun _ => by kernel_rfl
  have ix1 : ∀ w : World, (Instr.index 39 (.agg #[.int .i64 l0, .int .i64 l1, .int .i64 l2, .int .i64 l3, .int .i64 l4, .int .i64 l5, .int .i64 l6, .int .i64 l7]) (.int .i64 1)).run Try.prog w = .ok (.agg #[.int .i64 l2, .int .i64 l3]) w := fun _ => by kernel_rfl
  have ix2 : ∀ w : World, (Instr.index 39 (.agg #[.int .i64 l0, .int .i64 l1, .int .i64 l2, .int .i64 l3, .int .i64 l4, .int .i64 l5, .int .i64 l6, .int .i64 l7]) (.int .i64 2)).run Try.prog w = .ok (.agg #[.int .i64 l4, .int .i64 l5]) w := fun _ => by kernel_rfl
  have ix3 : ∀ w : World, (Instr.index 39 (.agg #[.int .i64 l0, .int .i64 l1, .int .i64 l2, .int .i64 l3, .int .i64 l4, .int .i64 l5, .int .i64 l6, .int .i64 l7]) (.int .i64 3)).run Try.prog w = .ok (.agg #[.int .i64 l6, .int .i64 l7]) w := fun _ => by kernel_rfl
  go_wp2_with fail
  refine wp_loop_rounds 5 ?_
  clear k0 k1 k2 k3 k4 k5 k6 k7
  have D0 := C2
  generalize w2 = y0 at *
  clear C2
  rw [rounds_succ]
  go_upto_region 6 with fail
  have E0 := D0.push [.int .i64 l0, .int .i64 l1] 28
  generalize y0.alloc (.cells #[.int .i64 l0, .int .i64 l1] 28) = z0 at *
  generalize y0.heap.size = Q0 at *
  obtain ⟨k0, k1⟩ := E0.pt
  go_wp2_with fail
  refine (Has.call E0.tail (small_is _ _ x0 x1 Hhx0.out Hhx1.out _)).mono ?_
  rintro e z1 ⟨rfl, E1⟩
  clear k0 k1
  have k0 := E1.fact (.head _) (i := 0) rfl
  have k1 := E1.fact (.head _) (i := 1) rfl
  have f0 := E1.free (.head _) (i := 0) rfl
  have f1 := E1.free (.head _) (i := 1) rfl
  go_upto_region 7 with fail
  have D1 : Has w [(A, [.int .i64 x0, .int .i64 x1, .int .i64 0, .int .i64 0, .int .i64 0, .int .i64 0, .int .i64 0, .int .i64 0]), (M, [.int .i64 l0, .int .i64 l1, .int .i64 l2, .int .i64 l3, .int .i64 l4, .int .i64 l5, .int .i64 l6, .int .i64 l7])] ((z1.setCell ⟨A, 0, none⟩ (.int .i64 x0)).setCell ⟨A, 1, none⟩ (.int .i64 x1)) := (E1.set 0 (by simp) (.int .i64 x0)).set 1 (by simp) (.int .i64 x1)
  generalize (z1.setCell ⟨A, 0, none⟩ (.int .i64 x0)).setCell ⟨A, 1, none⟩ (.int .i64 x1) = y1 at *
  clear k0 k1 f0 f1 E0 E1 D0
  go_wp2_with fail
  rw [rounds_succ]
  go_upto_region 6 with fail
  have E0 := D1.push [.int .i64 l2, .int .i64 l3] 28
  generalize y1.alloc (.cells #[.int .i64 l2, .int .i64 l3] 28) = z0 at *
  generalize y1.heap.size = Q1 at *
  obtain ⟨k0, k1⟩ := E0.pt
  go_wp2_with fail
  refine (Has.call E0.tail (small_is _ _ x2 x3 Hhx2.out Hhx3.out _)).mono ?_
  rintro e z1 ⟨rfl, E1⟩
  clear k0 k1
  have k0 := E1.fact (.head _) (i := 2) rfl
  have k1 := E1.fact (.head _) (i := 3) rfl
  have f0 := E1.free (.head _) (i := 2) rfl
  have f1 := E1.free (.head _) (i := 3) rfl
  go_upto_region 7 with fail
  have D2 : Has w [(A, [.int .i64 x0, .int .i64 x1, .int .i64 x2, .int .i64 x3, .int .i64 0, .int .i64 0, .int .i64 0, .int .i64 0]), (M, [.int .i64 l0, .int .i64 l1, .int .i64 l2, .int .i64 l3, .int .i64 l4, .int .i64 l5, .int .i64 l6, .int .i64 l7])] ((z1.setCell ⟨A, 2, none⟩ (.int .i64 x2)).setCell ⟨A, 3, none⟩ (.int .i64 x3)) := (E1.set 2 (by simp) (.int .i64 x2)).set 3 (by simp) (.int .i64 x3)
  generalize (z1.setCell ⟨A, 2, none⟩ (.int .i64 x2)).setCell ⟨A, 3, none⟩ (.int .i64 x3) = y2 at *
  clear k0 k1 f0 f1 E0 E1 D1
  go_wp2_with fail
  rw [rounds_succ]
  go_upto_region 6 with fail
  have E0 := D2.push [.int .i64 l4, .int .i64 l5] 28
  generalize y2.alloc (.cells #[.int .i64 l4, .int .i64 l5] 28) = z0 at *
  generalize y2.heap.size = Q2 at *
  obtain ⟨k0, k1⟩ := E0.pt
  go_wp2_with fail
  refine (Has.call E0.tail (small_is _ _ x4 x5 Hhx4.out Hhx5.out _)).mono ?_
  rintro e z1 ⟨rfl, E1⟩
  clear k0 k1
  have k0 := E1.fact (.head _) (i := 4) rfl
  have k1 := E1.fact (.head _) (i := 5) rfl
  have f0 := E1.free (.head _) (i := 4) rfl
  have f1 := E1.free (.head _) (i := 5) rfl
  go_upto_region 7 with fail
  have D3 : Has w [(A, [.int .i64 x0, .int .i64 x1, .int .i64 x2, .int .i64 x3, .int .i64 x4, .int .i64 x5, .int .i64 0, .int .i64 0]), (M, [.int .i64 l0, .int .i64 l1, .int .i64 l2, .int .i64 l3, .int .i64 l4, .int .i64 l5, .int .i64 l6, .int .i64 l7])] ((z1.setCell ⟨A, 4, none⟩ (.int .i64 x4)).setCell ⟨A, 5, none⟩ (.int .i64 x5)) := (E1.set 4 (by simp) (.int .i64 x4)).set 5 (by simp) (.int .i64 x5)
  generalize (z1.setCell ⟨A, 4, none⟩ (.int .i64 x4)).setCell ⟨A, 5, none⟩ (.int .i64 x5) = y3 at *
  clear k0 k1 f0 f1 E0 E1 D2
  go_wp2_with fail
  rw [rounds_succ]
  go_upto_region 6 with fail
  have E0 := D3.push [.int .i64 l6, .int .i64 l7] 28
  generalize y3.alloc (.cells #[.int .i64 l6, .int .i64 l7] 28) = z0 at *
  generalize y3.heap.size = Q3 at *
  obtain ⟨k0, k1⟩ := E0.pt
  go_wp2_with fail
  refine (Has.call E0.tail (small_is _ _ x6 x7 Hhx6.out Hhx7.out _)).mono ?_
  rintro e z1 ⟨rfl, E1⟩
  clear k0 k1
  have k0 := E1.fact (.head _) (i := 6) rfl
  have k1 := E1.fact (.head _) (i := 7) rfl
  have f0 := E1.free (.head _) (i := 6) rfl
  have f1 := E1.free (.head _) (i := 7) rfl
  go_upto_region 7 with fail
  have D4 : Has w [(A, [.int .i64 x0, .int .i64 x1, .int .i64 x2, .int .i64 x3, .int .i64 x4, .int .i64 x5, .int .i64 x6, .int .i64 x7]), (M, [.int .i64 l0, .int .i64 l1, .int .i64 l2, .int .i64 l3, .int .i64 l4, .int .i64 l5, .int .i64 l6, .int .i64 l7])] ((z1.setCell ⟨A, 6, none⟩ (.int .i64 x6)).setCell ⟨A, 7, none⟩ (.int .i64 x7)) := (E1.set 6 (by simp) (.int .i64 x6)).set 7 (by simp) (.int .i64 x7)
  generalize (z1.setCell ⟨A, 6, none⟩ (.int .i64 x6)).setCell ⟨A, 7, none⟩ (.int .i64 x7) = y4 at *
  clear k0 k1 f0 f1 E0 E1 D3
  go_wp2_with fail
  rw [rounds_succ]
  clear ix0 ix1 ix2 ix3
  have G0 := (D4.swap).tail
  clear D4 Hhx0 Hhx1 Hhx2 Hhx3 Hhx4 Hhx5 Hhx6 Hhx7
  go_wp2_with fail
  go_loopw [7, 8] (fun n i wr => ∃ N I : Int, n = .int .i64 N ∧ i = .int .i64 I ∧ (-12 ≤ I ∧ I ≤ 13) ∧ Hid (Geo.Cnt f I (-12) N) ∧ Has w [(A, [.int .i64 x0, .int .i64 x1, .int .i64 x2, .int .i64 x3, .int .i64 x4, .int .i64 x5, .int .i64 x6, .int .i64 x7])] wr) (fun _ i _ => (13 - intOf i).toNat)
  case atStart => exact ⟨0, -12, rfl, rfl, by omega, Lib.hid (Geo.Cnt.start f), G0⟩
  case round =>
    clear G0
    obtain ⟨N, I, rfl, rfl, bI, HC, G0⟩ := hrel
    by_cases hI : I ≤ 12
    · have wI : IntKind.i64.wrap (I + 1) = I + 1 := IntWalk.i64_in _ (by omega)
      obtain ⟨dI, hdI⟩ : ∃ d, 2 * I = d := ⟨_, rfl⟩
      have edI : IntKind.i64.wrap (2 * I) = dI := hdI ▸ IntWalk.i64_in _ (by omega)
      have HdI := Lib.hid hdI
      clear hdI
      go_wp2_with fail
      go_loopw [7, 9] (fun n k wr => ∃ N J : Int, n = .int .i64 N ∧ k = .int .i64 J ∧ (-12 ≤ J ∧ J ≤ 13) ∧ Hid (Geo.Cnt f I J N) ∧ Has w [(A, [.int .i64 x0, .int .i64 x1, .int .i64 x2, .int .i64 x3, .int .i64 x4, .int .i64 x5, .int .i64 x6, .int .i64 x7])] wr) (fun _ k _ => (13 - intOf k).toNat)
      case atStart => exact ⟨N, -12, rfl, rfl, by omega, HC, G0⟩
      case round =>
        clear HC G0
        obtain ⟨N, J, rfl, rfl, bJ, HC, G0⟩ := hrel
        by_cases hJ : J ≤ 12
        · have wJ : IntKind.i64.wrap (J + 1) = J + 1 := IntWalk.i64_in _ (by omega)
          obtain ⟨dJ, hdJ⟩ : ∃ d, 2 * J = d := ⟨_, rfl⟩
          have edJ : IntKind.i64.wrap (2 * J) = dJ := hdJ ▸ IntWalk.i64_in _ (by omega)
          have HdJ := Lib.hid hdJ
          clear hdJ
          have wN : IntKind.i64.wrap (N + 1) = N + 1 := IntWalk.i64_in _ (by have := HC.out.lo; have := HC.out.hi; omega)
          obtain ⟨o, ho⟩ : ∃ o, Geo.on x0 x1 x2 x3 I J = o := ⟨_, rfl⟩
          obtain ⟨q, hq⟩ : ∃ q, Geo.on x4 x5 x6 x7 I J = q := ⟨_, rfl⟩
          obtain ⟨me, hme⟩ : ∃ m, meetOf x0 x1 x2 x3 I J I J = m := ⟨_, rfl⟩
          have hfv : f I J = (o && q) := by rw [← Hf.out]; simp only [ho, hq]
          have Hfv := Lib.hid hfv
          have HO := Lib.hid (Geo.lattice_at HL0.out HL1.out (show Geo.Lt I from ⟨bI.1, hI⟩) (show Geo.Lt J from ⟨bJ.1, hJ⟩) ho)
          rw [hme, Hd0.out, Hd1.out, Hd2.out, Hd3.out, HdI.out, HdJ.out] at HO
          have HQ := Lib.hid ((Geo.lt_on HL2.out HL3.out (show Geo.Lt I from ⟨bI.1, hI⟩) (show Geo.Lt J from ⟨bJ.1, hJ⟩)).trans hq)
          have Hme := Lib.hid hme
          have em : (me == 1) = o := HO.out.2.2
          clear ho hq hme hfv
          go_wp2_with fail
          refine (Has.call G0 (pt_any _ _ _)).mono ?_
          rintro e v1 ⟨rfl, G1⟩
          go_upto_region 16 with fail
          have G2 := G1.push [.int .i64 I, .int .i64 J] 28
          generalize v1.alloc (.cells #[.int .i64 I, .int .i64 J] 28) = v2 at *
          generalize v1.heap.size = P at *
          have X0 := G2.drew
          clear G0 G1 G2
          refine wp_region_held_drew (S := (fun w' => (w'.cell? ⟨P, 0, none⟩ = some (.int .i64 I) ∧ w'.cell? ⟨P, 1, none⟩ = some (.int .i64 J) ∧ w'.cell? ⟨A, 0, none⟩ = some (.int .i64 x0) ∧ w'.cell? ⟨A, 1, none⟩ = some (.int .i64 x1) ∧ w'.cell? ⟨A, 2, none⟩ = some (.int .i64 x2) ∧ w'.cell? ⟨A, 3, none⟩ = some (.int .i64 x3) ∧ w'.cell? ⟨A, 4, none⟩ = some (.int .i64 x4) ∧ w'.cell? ⟨A, 5, none⟩ = some (.int .i64 x5) ∧ w'.cell? ⟨A, 6, none⟩ = some (.int .i64 x6) ∧ w'.cell? ⟨A, 7, none⟩ = some (.int .i64 x7)) ∧ Has w [(P, [.int .i64 I, .int .i64 J]), (A, [.int .i64 x0, .int .i64 x1, .int .i64 x2, .int .i64 x3, .int .i64 x4, .int .i64 x5, .int .i64 x6, .int .i64 x7])] w')) (by kernel_rfl) (X0.ten) (fun hHeld => ?_)
          refine wpAnyT_begin [0, 1, 2, 3, 4, 6, 7, 8, 9, 10] (by kernel_rfl) (by kernel_rfl) ?_
          refine wpAnyT_take (oi := ⟨some 36, Op.indexAddr 39 (Operand.tmp 4) (Operand.const (Value.int IntKind.i64 0)), 0, _, _, none⟩) (v := .pointer (some ⟨A, 0, none⟩)) rfl (fun _ _ _ h => h) (by rfl) (by assumption) (fun wS hSw => ?_) ?_
          · (try dsimp only at hSw); go_simp
          simp only [Act.put, List.setIfInBounds_toArray, List.set_cons_zero, List.set_cons_succ]
          refine wpAnyT_take (oi := ⟨some 37, Op.load 28 (Operand.tmp 36), 28, _, _, none⟩) (v := .agg #[.int .i64 x0, .int .i64 x1]) rfl (fun _ _ _ h => h) (by rfl) (by assumption) (fun wS hSw => ?_) ?_
          · (try dsimp only at hSw); go_simp
          simp only [Act.put, List.setIfInBounds_toArray, List.set_cons_zero, List.set_cons_succ]
          refine wpAnyT_take (oi := ⟨some 38, Op.indexAddr 39 (Operand.tmp 4) (Operand.const (Value.int IntKind.i64 1)), 0, _, _, none⟩) (v := .pointer (some ⟨A, 2, none⟩)) rfl (fun _ _ _ h => h) (by rfl) (by assumption) (fun wS hSw => ?_) ?_
          · (try dsimp only at hSw); go_simp
          simp only [Act.put, List.setIfInBounds_toArray, List.set_cons_zero, List.set_cons_succ]
          refine wpAnyT_take (oi := ⟨some 39, Op.load 28 (Operand.tmp 38), 28, _, _, none⟩) (v := .agg #[.int .i64 x2, .int .i64 x3]) rfl (fun _ _ _ h => h) (by rfl) (by assumption) (fun wS hSw => ?_) ?_
          · (try dsimp only at hSw); go_simp
          simp only [Act.put, List.setIfInBounds_toArray, List.set_cons_zero, List.set_cons_succ]
          refine wpAnyT_take (oi := ⟨some 40, Op.load 28 (Operand.tmp 10), 28, _, _, none⟩) (v := .agg #[.int .i64 I, .int .i64 J]) rfl (fun _ _ _ h => h) (by rfl) (by assumption) (fun wS hSw => ?_) ?_
          · (try dsimp only at hSw); go_simp
          simp only [Act.put, List.setIfInBounds_toArray, List.set_cons_zero, List.set_cons_succ]
          refine wpAnyT_take (oi := ⟨some 42, Op.indexAddr 39 (Operand.tmp 4) (Operand.const (Value.int IntKind.i64 2)), 0, _, _, none⟩) (v := .pointer (some ⟨A, 4, none⟩)) rfl (fun _ _ _ h => h) (by rfl) (by assumption) (fun wS hSw => ?_) ?_
          · (try dsimp only at hSw); go_simp
          simp only [Act.put, List.setIfInBounds_toArray, List.set_cons_zero, List.set_cons_succ]
          refine wpAnyT_take (oi := ⟨some 43, Op.load 28 (Operand.tmp 42), 28, _, _, none⟩) (v := .agg #[.int .i64 x4, .int .i64 x5]) rfl (fun _ _ _ h => h) (by rfl) (by assumption) (fun wS hSw => ?_) ?_
          · (try dsimp only at hSw); go_simp
          simp only [Act.put, List.setIfInBounds_toArray, List.set_cons_zero, List.set_cons_succ]
          refine wpAnyT_take (oi := ⟨some 44, Op.indexAddr 39 (Operand.tmp 4) (Operand.const (Value.int IntKind.i64 3)), 0, _, _, none⟩) (v := .pointer (some ⟨A, 6, none⟩)) rfl (fun _ _ _ h => h) (by rfl) (by assumption) (fun wS hSw => ?_) ?_
          · (try dsimp only at hSw); go_simp
          simp only [Act.put, List.setIfInBounds_toArray, List.set_cons_zero, List.set_cons_succ]
          refine wpAnyT_take (oi := ⟨some 45, Op.load 28 (Operand.tmp 44), 28, _, _, none⟩) (v := .agg #[.int .i64 x6, .int .i64 x7]) rfl (fun _ _ _ h => h) (by rfl) (by assumption) (fun wS hSw => ?_) ?_
          · (try dsimp only at hSw); go_simp
          simp only [Act.put, List.setIfInBounds_toArray, List.set_cons_zero, List.set_cons_succ]
          refine wpAnyT_take (oi := ⟨some 46, Op.load 28 (Operand.tmp 10), 28, _, _, none⟩) (v := .agg #[.int .i64 I, .int .i64 J]) rfl (fun _ _ _ h => h) (by rfl) (by assumption) (fun wS hSw => ?_) ?_
          · (try dsimp only at hSw); go_simp
          simp only [Act.put, List.setIfInBounds_toArray, List.set_cons_zero, List.set_cons_succ]
          refine wpAnyT_end ?_
          refine wpAnyH_listed #[true, true, true, true, true, false, true, true, true, true, true, false, false, false] (by kernel_rfl) ?_
          refine wpAnyH_ready (rs := [5]) (by kernel_rfl) (by simp) ?_
          refine AllReadyH.cons (o := ⟨some 41, Op.call { callee := Callee.value (Operand.func 32), args := #[Operand.tmp 37, Operand.tmp 39, Operand.tmp 40], argTypes := #[28, 28, 28] }, 4, _, _, none⟩) rfl (fun K hK => ?_) AllReadyH.nil
          go_simp
          go_at_call 32
          refine (Has.call X0 (on_is x0 x1 x2 x3 I J o HO.out.1 _)).mono ?_
          rintro e W1 ⟨rfl, X1⟩
          go_wp2_with fail
          clear hHeld
          refine hK.out _ _ (X1.ten) (fun hHeld => ?_)
          clear hK K
          try simp only [List.setIfInBounds_toArray, List.set_cons_zero, List.set_cons_succ]
          refine wpAnyH_listed #[true, true, true, true, true, true, true, true, true, true, true, false, false, false] (by kernel_rfl) ?_
          refine wpAnyH_ready (rs := [11]) (by kernel_rfl) (by simp) ?_
          refine AllReadyH.cons (o := ⟨some 47, Op.call { callee := Callee.value (Operand.func 32), args := #[Operand.tmp 43, Operand.tmp 45, Operand.tmp 46], argTypes := #[28, 28, 28] }, 4, _, _, none⟩) rfl (fun K hK => ?_) AllReadyH.nil
          go_simp
          go_at_call 32
          refine (Has.call X1 (on_is x4 x5 x6 x7 I J q HQ.out _)).mono ?_
          rintro e W2 ⟨rfl, X2⟩
          go_wp2_with fail
          clear hHeld
          refine hK.out _ _ (X2.ten) (fun hHeld => ?_)
          clear hK K
          try simp only [List.setIfInBounds_toArray, List.set_cons_zero, List.set_cons_succ]
          refine wpAnyH_listed #[true, true, true, true, true, true, true, true, true, true, true, true, false, false] (by kernel_rfl) ?_
          refine wpAnyT_begin [12, 13] (by kernel_rfl) (by kernel_rfl) ?_
          refine wpAnyT_take (oi := ⟨some 11, Op.assign (Operand.tmp 41), 4, _, _, none⟩) (v := .bool o) rfl (fun _ _ _ h => h) (by rfl) (by assumption) (fun wS hSw => ?_) ?_
          · (try dsimp only at hSw); go_simp
          simp only [Act.put, List.setIfInBounds_toArray, List.set_cons_zero, List.set_cons_succ]
          refine wpAnyT_take (oi := ⟨some 12, Op.assign (Operand.tmp 47), 4, _, _, none⟩) (v := .bool q) rfl (fun _ _ _ h => h) (by rfl) (by assumption) (fun wS hSw => ?_) ?_
          · (try dsimp only at hSw); go_simp
          simp only [Act.put, List.setIfInBounds_toArray, List.set_cons_zero, List.set_cons_succ]
          refine wpAnyT_end ?_
          refine wpAnyH_listed #[true, true, true, true, true, true, true, true, true, true, true, true, true, true] (by kernel_rfl) ?_
          refine wpAnyH_done (by kernel_rfl) ?_ _
          clear X0 X1 hHeld
          have Y0 := X2.drew
          cases o
          · clear HQ
            go_upto_region 19 with fail
            refine wp_region_held_drew (S := (fun w' => (w'.cell? ⟨P, 0, none⟩ = some (.int .i64 I) ∧ w'.cell? ⟨P, 1, none⟩ = some (.int .i64 J) ∧ w'.cell? ⟨A, 0, none⟩ = some (.int .i64 x0) ∧ w'.cell? ⟨A, 1, none⟩ = some (.int .i64 x1) ∧ w'.cell? ⟨A, 2, none⟩ = some (.int .i64 x2) ∧ w'.cell? ⟨A, 3, none⟩ = some (.int .i64 x3) ∧ w'.cell? ⟨A, 4, none⟩ = some (.int .i64 x4) ∧ w'.cell? ⟨A, 5, none⟩ = some (.int .i64 x5) ∧ w'.cell? ⟨A, 6, none⟩ = some (.int .i64 x6) ∧ w'.cell? ⟨A, 7, none⟩ = some (.int .i64 x7)) ∧ Has w [(P, [.int .i64 I, .int .i64 J]), (A, [.int .i64 x0, .int .i64 x1, .int .i64 x2, .int .i64 x3, .int .i64 x4, .int .i64 x5, .int .i64 x6, .int .i64 x7])] w')) (by kernel_rfl) (Y0.ten) (fun hHeld => ?_)
            refine wpAnyT_begin [0, 1, 2, 3, 4, 5, 6, 7, 8, 10, 11] (by kernel_rfl) (by kernel_rfl) ?_
            refine wpAnyT_take (oi := ⟨some 54, Op.move (Operand.tmp 11), 4, _, _, none⟩) (v := .bool false) rfl (fun _ _ _ h => h) (by rfl) (by assumption) (fun wS hSw => ?_) ?_
            · (try dsimp only at hSw); go_simp
            simp only [Act.put, List.setIfInBounds_toArray, List.set_cons_zero, List.set_cons_succ]
            refine wpAnyT_take (oi := ⟨some 55, Op.indexAddr 39 (Operand.tmp 4) (Operand.const (Value.int IntKind.i64 0)), 0, _, _, none⟩) (v := .pointer (some ⟨A, 0, none⟩)) rfl (fun _ _ _ h => h) (by rfl) (by assumption) (fun wS hSw => ?_) ?_
            · (try dsimp only at hSw); go_simp
            simp only [Act.put, List.setIfInBounds_toArray, List.set_cons_zero, List.set_cons_succ]
            refine wpAnyT_take (oi := ⟨some 56, Op.fieldAddr 28 (Operand.tmp 55) 0, 0, _, _, none⟩) (v := .pointer (some ⟨A, 0, none⟩)) rfl (fun _ _ _ h => h) (by rfl) (by assumption) (fun wS hSw => ?_) ?_
            · (try dsimp only at hSw); go_simp
            simp only [Act.put, List.setIfInBounds_toArray, List.set_cons_zero, List.set_cons_succ]
            refine wpAnyT_take (oi := ⟨some 57, Op.load 3 (Operand.tmp 56), 3, _, _, none⟩) (v := .int .i64 x0) rfl (fun _ _ _ h => h) (by rfl) (by assumption) (fun wS hSw => ?_) ?_
            · (try dsimp only at hSw); go_simp
            simp only [Act.put, List.setIfInBounds_toArray, List.set_cons_zero, List.set_cons_succ]
            refine wpAnyT_take (oi := ⟨some 58, Op.binOp BinOp.mul 3 (Operand.const (Value.int IntKind.i64 2)) (Operand.tmp 57) 3, 3, _, _, none⟩) (v := .int .i64 d0) rfl (fun _ _ _ h => h) (by rfl) (by assumption) (fun wS hSw => ?_) ?_
            · (try dsimp only at hSw); go_simp
            simp only [Act.put, List.setIfInBounds_toArray, List.set_cons_zero, List.set_cons_succ]
            refine wpAnyT_take (oi := ⟨some 59, Op.indexAddr 39 (Operand.tmp 4) (Operand.const (Value.int IntKind.i64 0)), 0, _, _, none⟩) (v := .pointer (some ⟨A, 0, none⟩)) rfl (fun _ _ _ h => h) (by rfl) (by assumption) (fun wS hSw => ?_) ?_
            · (try dsimp only at hSw); go_simp
            simp only [Act.put, List.setIfInBounds_toArray, List.set_cons_zero, List.set_cons_succ]
            refine wpAnyT_take (oi := ⟨some 60, Op.fieldAddr 28 (Operand.tmp 59) 1, 0, _, _, none⟩) (v := .pointer (some ⟨A, 1, none⟩)) rfl (fun _ _ _ h => h) (by rfl) (by assumption) (fun wS hSw => ?_) ?_
            · (try dsimp only at hSw); go_simp
            simp only [Act.put, List.setIfInBounds_toArray, List.set_cons_zero, List.set_cons_succ]
            refine wpAnyT_take (oi := ⟨some 61, Op.load 3 (Operand.tmp 60), 3, _, _, none⟩) (v := .int .i64 x1) rfl (fun _ _ _ h => h) (by rfl) (by assumption) (fun wS hSw => ?_) ?_
            · (try dsimp only at hSw); go_simp
            simp only [Act.put, List.setIfInBounds_toArray, List.set_cons_zero, List.set_cons_succ]
            refine wpAnyT_take (oi := ⟨some 62, Op.binOp BinOp.mul 3 (Operand.const (Value.int IntKind.i64 2)) (Operand.tmp 61) 3, 3, _, _, none⟩) (v := .int .i64 d1) rfl (fun _ _ _ h => h) (by rfl) (by assumption) (fun wS hSw => ?_) ?_
            · (try dsimp only at hSw); go_simp
            simp only [Act.put, List.setIfInBounds_toArray, List.set_cons_zero, List.set_cons_succ]
            refine wpAnyT_take (oi := ⟨some 64, Op.indexAddr 39 (Operand.tmp 4) (Operand.const (Value.int IntKind.i64 1)), 0, _, _, none⟩) (v := .pointer (some ⟨A, 2, none⟩)) rfl (fun _ _ _ h => h) (by rfl) (by assumption) (fun wS hSw => ?_) ?_
            · (try dsimp only at hSw); go_simp
            simp only [Act.put, List.setIfInBounds_toArray, List.set_cons_zero, List.set_cons_succ]
            refine wpAnyT_take (oi := ⟨some 65, Op.fieldAddr 28 (Operand.tmp 64) 0, 0, _, _, none⟩) (v := .pointer (some ⟨A, 2, none⟩)) rfl (fun _ _ _ h => h) (by rfl) (by assumption) (fun wS hSw => ?_) ?_
            · (try dsimp only at hSw); go_simp
            simp only [Act.put, List.setIfInBounds_toArray, List.set_cons_zero, List.set_cons_succ]
            refine wpAnyT_end ?_
            refine wpAnyH_listed #[true, true, true, true, true, true, true, true, true, false, true, true, false, false, false, false, false, false, false, false, false, false, false, false, false, false, false, false, false, false, false, false, false, false, false, false, false, false] (by kernel_rfl) ?_
            refine wpAnyT_begin [12, 13, 14, 15, 16, 17, 19, 20, 21, 22] (by kernel_rfl) (by kernel_rfl) ?_
            refine wpAnyT_take (oi := ⟨some 66, Op.load 3 (Operand.tmp 65), 3, _, _, none⟩) (v := .int .i64 x2) rfl (fun _ _ _ h => h) (by rfl) (by assumption) (fun wS hSw => ?_) ?_
            · (try dsimp only at hSw); go_simp
            simp only [Act.put, List.setIfInBounds_toArray, List.set_cons_zero, List.set_cons_succ]
            refine wpAnyT_take (oi := ⟨some 67, Op.binOp BinOp.mul 3 (Operand.const (Value.int IntKind.i64 2)) (Operand.tmp 66) 3, 3, _, _, none⟩) (v := .int .i64 d2) rfl (fun _ _ _ h => h) (by rfl) (by assumption) (fun wS hSw => ?_) ?_
            · (try dsimp only at hSw); go_simp
            simp only [Act.put, List.setIfInBounds_toArray, List.set_cons_zero, List.set_cons_succ]
            refine wpAnyT_take (oi := ⟨some 68, Op.indexAddr 39 (Operand.tmp 4) (Operand.const (Value.int IntKind.i64 1)), 0, _, _, none⟩) (v := .pointer (some ⟨A, 2, none⟩)) rfl (fun _ _ _ h => h) (by rfl) (by assumption) (fun wS hSw => ?_) ?_
            · (try dsimp only at hSw); go_simp
            simp only [Act.put, List.setIfInBounds_toArray, List.set_cons_zero, List.set_cons_succ]
            refine wpAnyT_take (oi := ⟨some 69, Op.fieldAddr 28 (Operand.tmp 68) 1, 0, _, _, none⟩) (v := .pointer (some ⟨A, 3, none⟩)) rfl (fun _ _ _ h => h) (by rfl) (by assumption) (fun wS hSw => ?_) ?_
            · (try dsimp only at hSw); go_simp
            simp only [Act.put, List.setIfInBounds_toArray, List.set_cons_zero, List.set_cons_succ]
            refine wpAnyT_take (oi := ⟨some 70, Op.load 3 (Operand.tmp 69), 3, _, _, none⟩) (v := .int .i64 x3) rfl (fun _ _ _ h => h) (by rfl) (by assumption) (fun wS hSw => ?_) ?_
            · (try dsimp only at hSw); go_simp
            simp only [Act.put, List.setIfInBounds_toArray, List.set_cons_zero, List.set_cons_succ]
            refine wpAnyT_take (oi := ⟨some 71, Op.binOp BinOp.mul 3 (Operand.const (Value.int IntKind.i64 2)) (Operand.tmp 70) 3, 3, _, _, none⟩) (v := .int .i64 d3) rfl (fun _ _ _ h => h) (by rfl) (by assumption) (fun wS hSw => ?_) ?_
            · (try dsimp only at hSw); go_simp
            simp only [Act.put, List.setIfInBounds_toArray, List.set_cons_zero, List.set_cons_succ]
            refine wpAnyT_take (oi := ⟨some 73, Op.move (Operand.tmp 8), 3, _, _, none⟩) (v := .int .i64 I) rfl (fun _ _ _ h => h) (by rfl) (by assumption) (fun wS hSw => ?_) ?_
            · (try dsimp only at hSw); go_simp
            simp only [Act.put, List.setIfInBounds_toArray, List.set_cons_zero, List.set_cons_succ]
            refine wpAnyT_take (oi := ⟨some 74, Op.binOp BinOp.mul 3 (Operand.const (Value.int IntKind.i64 2)) (Operand.tmp 73) 3, 3, _, _, none⟩) (v := .int .i64 dI) rfl (fun _ _ _ h => h) (by rfl) (by assumption) (fun wS hSw => ?_) ?_
            · (try dsimp only at hSw); go_simp
            simp only [Act.put, List.setIfInBounds_toArray, List.set_cons_zero, List.set_cons_succ]
            refine wpAnyT_take (oi := ⟨some 75, Op.move (Operand.tmp 9), 3, _, _, none⟩) (v := .int .i64 J) rfl (fun _ _ _ h => h) (by rfl) (by assumption) (fun wS hSw => ?_) ?_
            · (try dsimp only at hSw); go_simp
            simp only [Act.put, List.setIfInBounds_toArray, List.set_cons_zero, List.set_cons_succ]
            refine wpAnyT_take (oi := ⟨some 76, Op.binOp BinOp.mul 3 (Operand.const (Value.int IntKind.i64 2)) (Operand.tmp 75) 3, 3, _, _, none⟩) (v := .int .i64 dJ) rfl (fun _ _ _ h => h) (by rfl) (by assumption) (fun wS hSw => ?_) ?_
            · (try dsimp only at hSw); go_simp
            simp only [Act.put, List.setIfInBounds_toArray, List.set_cons_zero, List.set_cons_succ]
            refine wpAnyT_end ?_
            refine wpAnyH_listed #[true, true, true, true, true, true, true, true, true, false, true, true, true, true, true, true, true, true, false, true, true, true, true, false, false, false, false, false, false, false, false, false, false, false, false, false, false, false] (by kernel_rfl) ?_
            refine wpAnyH_ready (rs := [9]) (by kernel_rfl) (by simp) ?_
            refine AllReadyH.cons (o := ⟨some 63, Op.call { callee := Callee.value (Operand.func 29), args := #[Operand.tmp 58, Operand.tmp 62], argTypes := #[3, 3] }, 28, _, _, none⟩) rfl (fun K hK => ?_) AllReadyH.nil
            go_simp
            go_at_call 29
            refine (Has.call Y0 (pt_any d0 d1 _)).mono ?_
            rintro e V1 ⟨rfl, Y1⟩
            go_wp2_with fail
            clear hHeld
            refine hK.out _ _ (Y1.ten) (fun hHeld => ?_)
            clear hK K
            try simp only [List.setIfInBounds_toArray, List.set_cons_zero, List.set_cons_succ]
            refine wpAnyH_listed #[true, true, true, true, true, true, true, true, true, true, true, true, true, true, true, true, true, true, false, true, true, true, true, false, false, false, false, false, false, false, false, false, false, false, false, false, false, false] (by kernel_rfl) ?_
            refine wpAnyH_ready (rs := [18]) (by kernel_rfl) (by simp) ?_
            refine AllReadyH.cons (o := ⟨some 72, Op.call { callee := Callee.value (Operand.func 29), args := #[Operand.tmp 67, Operand.tmp 71], argTypes := #[3, 3] }, 28, _, _, none⟩) rfl (fun K hK => ?_) AllReadyH.nil
            go_simp
            go_at_call 29
            refine (Has.call Y1 (pt_any d2 d3 _)).mono ?_
            rintro e V2 ⟨rfl, Y2⟩
            go_wp2_with fail
            clear hHeld
            refine hK.out _ _ (Y2.ten) (fun hHeld => ?_)
            clear hK K
            try simp only [List.setIfInBounds_toArray, List.set_cons_zero, List.set_cons_succ]
            refine wpAnyH_listed #[true, true, true, true, true, true, true, true, true, true, true, true, true, true, true, true, true, true, true, true, true, true, true, false, false, false, false, false, false, false, false, false, false, false, false, false, false, false] (by kernel_rfl) ?_
            refine wpAnyH_ready (rs := [23]) (by kernel_rfl) (by simp) ?_
            refine AllReadyH.cons (o := ⟨some 77, Op.call { callee := Callee.value (Operand.func 29), args := #[Operand.tmp 74, Operand.tmp 76], argTypes := #[3, 3] }, 28, _, _, none⟩) rfl (fun K hK => ?_) AllReadyH.nil
            go_simp
            go_at_call 29
            refine (Has.call Y2 (pt_any dI dJ _)).mono ?_
            rintro e V3 ⟨rfl, Y3⟩
            go_wp2_with fail
            clear hHeld
            refine hK.out _ _ (Y3.ten) (fun hHeld => ?_)
            clear hK K
            try simp only [List.setIfInBounds_toArray, List.set_cons_zero, List.set_cons_succ]
            refine wpAnyH_listed #[true, true, true, true, true, true, true, true, true, true, true, true, true, true, true, true, true, true, true, true, true, true, true, true, false, false, false, false, false, false, false, false, false, false, false, false, false, false] (by kernel_rfl) ?_
            refine wpAnyH_ready (rs := [24]) (by kernel_rfl) (by simp) ?_
            refine AllReadyH.cons (o := ⟨some 78, Op.call { callee := Callee.value (Operand.func 32), args := #[Operand.tmp 63, Operand.tmp 72, Operand.tmp 77], argTypes := #[28, 28, 28] }, 4, _, _, none⟩) rfl (fun K hK => ?_) AllReadyH.nil
            go_simp
            go_at_call 32
            refine (Has.call Y3 (on_is d0 d1 d2 d3 dI dJ false HO.out.2.1 _)).mono ?_
            rintro e V4 ⟨rfl, Y4⟩
            go_wp2_with fail
            clear hHeld
            refine hK.out _ _ (Y4.ten) (fun hHeld => ?_)
            clear hK K
            try simp only [List.setIfInBounds_toArray, List.set_cons_zero, List.set_cons_succ]
            refine wpAnyH_listed #[true, true, true, true, true, true, true, true, true, true, true, true, true, true, true, true, true, true, true, true, true, true, true, true, true, false, false, false, false, false, false, false, false, false, false, false, false, false] (by kernel_rfl) ?_
            refine wpAnyT_begin [25, 26, 27, 28, 29, 30, 31, 32, 33] (by kernel_rfl) (by kernel_rfl) ?_
            refine wpAnyT_take (oi := ⟨some 79, Op.binOp BinOp.neq 4 (Operand.tmp 54) (Operand.tmp 78) 4, 4, _, _, none⟩) (v := .bool false) rfl (fun _ _ _ h => h) (by rfl) (by assumption) (fun wS hSw => ?_) ?_
            · (try dsimp only at hSw); go_simp
            simp only [Act.put, List.setIfInBounds_toArray, List.set_cons_zero, List.set_cons_succ]
            refine wpAnyT_take (oi := ⟨some 80, Op.move (Operand.tmp 79), 4, _, _, none⟩) (v := .bool false) rfl (fun _ _ _ h => h) (by rfl) (by assumption) (fun wS hSw => ?_) ?_
            · (try dsimp only at hSw); go_simp
            simp only [Act.put, List.setIfInBounds_toArray, List.set_cons_zero, List.set_cons_succ]
            refine wpAnyT_take (oi := ⟨some 81, Op.move (Operand.tmp 11), 4, _, _, some (26, false)⟩) (v := .bool false) rfl (fun _ _ _ h => h) (by rfl) (by assumption) (fun wS hSw => ?_) ?_
            · (try dsimp only at hSw); go_simp
            simp only [Act.put, List.setIfInBounds_toArray, List.set_cons_zero, List.set_cons_succ]
            refine wpAnyT_take (oi := ⟨some 82, Op.indexAddr 39 (Operand.tmp 4) (Operand.const (Value.int IntKind.i64 0)), 0, _, _, some (26, false)⟩) (v := .pointer (some ⟨A, 0, none⟩)) rfl (fun _ _ _ h => h) (by rfl) (by assumption) (fun wS hSw => ?_) ?_
            · (try dsimp only at hSw); go_simp
            simp only [Act.put, List.setIfInBounds_toArray, List.set_cons_zero, List.set_cons_succ]
            refine wpAnyT_take (oi := ⟨some 83, Op.load 28 (Operand.tmp 82), 28, _, _, some (26, false)⟩) (v := .agg #[.int .i64 x0, .int .i64 x1]) rfl (fun _ _ _ h => h) (by rfl) (by assumption) (fun wS hSw => ?_) ?_
            · (try dsimp only at hSw); go_simp
            simp only [Act.put, List.setIfInBounds_toArray, List.set_cons_zero, List.set_cons_succ]
            refine wpAnyT_take (oi := ⟨some 84, Op.indexAddr 39 (Operand.tmp 4) (Operand.const (Value.int IntKind.i64 1)), 0, _, _, some (26, false)⟩) (v := .pointer (some ⟨A, 2, none⟩)) rfl (fun _ _ _ h => h) (by rfl) (by assumption) (fun wS hSw => ?_) ?_
            · (try dsimp only at hSw); go_simp
            simp only [Act.put, List.setIfInBounds_toArray, List.set_cons_zero, List.set_cons_succ]
            refine wpAnyT_take (oi := ⟨some 85, Op.load 28 (Operand.tmp 84), 28, _, _, some (26, false)⟩) (v := .agg #[.int .i64 x2, .int .i64 x3]) rfl (fun _ _ _ h => h) (by rfl) (by assumption) (fun wS hSw => ?_) ?_
            · (try dsimp only at hSw); go_simp
            simp only [Act.put, List.setIfInBounds_toArray, List.set_cons_zero, List.set_cons_succ]
            refine wpAnyT_take (oi := ⟨some 86, Op.load 28 (Operand.tmp 10), 28, _, _, some (26, false)⟩) (v := .agg #[.int .i64 I, .int .i64 J]) rfl (fun _ _ _ h => h) (by rfl) (by assumption) (fun wS hSw => ?_) ?_
            · (try dsimp only at hSw); go_simp
            simp only [Act.put, List.setIfInBounds_toArray, List.set_cons_zero, List.set_cons_succ]
            refine wpAnyT_take (oi := ⟨some 87, Op.load 28 (Operand.tmp 10), 28, _, _, some (26, false)⟩) (v := .agg #[.int .i64 I, .int .i64 J]) rfl (fun _ _ _ h => h) (by rfl) (by assumption) (fun wS hSw => ?_) ?_
            · (try dsimp only at hSw); go_simp
            simp only [Act.put, List.setIfInBounds_toArray, List.set_cons_zero, List.set_cons_succ]
            refine wpAnyT_end ?_
            refine wpAnyH_listed #[true, true, true, true, true, true, true, true, true, true, true, true, true, true, true, true, true, true, true, true, true, true, true, true, true, true, true, true, true, true, true, true, true, true, false, false, false, false] (by kernel_rfl) ?_
            refine wpAnyH_ready (rs := [34]) (by kernel_rfl) (by simp) ?_
            refine AllReadyH.cons (o := ⟨some 88, Op.call { callee := Callee.value (Operand.func 34), args := #[Operand.tmp 83, Operand.tmp 85, Operand.tmp 86, Operand.tmp 87], argTypes := #[28, 28, 28, 28] }, 3, _, _, some (26, false)⟩) rfl (fun K hK => ?_) AllReadyH.nil
            go_simp
            go_at_call 34
            refine (Has.call Y4 (meet_is x0 x1 x2 x3 I J I J me Hme.out _)).mono ?_
            rintro e V5 ⟨rfl, Y5⟩
            go_wp2_with fail
            clear hHeld
            refine hK.out _ _ (Y5.ten) (fun hHeld => ?_)
            clear hK K
            try simp only [List.setIfInBounds_toArray, List.set_cons_zero, List.set_cons_succ]
            refine wpAnyH_listed #[true, true, true, true, true, true, true, true, true, true, true, true, true, true, true, true, true, true, true, true, true, true, true, true, true, true, true, true, true, true, true, true, true, true, true, false, false, false] (by kernel_rfl) ?_
            refine wpAnyT_begin [35, 36, 37] (by kernel_rfl) (by kernel_rfl) ?_
            refine wpAnyT_take (oi := ⟨some 89, Op.binOp BinOp.eql 3 (Operand.tmp 88) (Operand.const (Value.int IntKind.i64 1)) 3, 4, _, _, some (26, false)⟩) (v := .bool false) rfl (fun _ _ _ h => h) (by rfl) (by assumption) (fun wS hSw => ?_) ?_
            · (try dsimp only at hSw); go_simp
            simp only [Act.put, List.setIfInBounds_toArray, List.set_cons_zero, List.set_cons_succ]
            refine wpAnyT_take (oi := ⟨some 90, Op.binOp BinOp.neq 4 (Operand.tmp 81) (Operand.tmp 89) 4, 4, _, _, some (26, false)⟩) (v := .bool false) rfl (fun _ _ _ h => h) (by rfl) (by assumption) (fun wS hSw => ?_) ?_
            · (try dsimp only at hSw); go_simp
            simp only [Act.put, List.setIfInBounds_toArray, List.set_cons_zero, List.set_cons_succ]
            refine wpAnyT_take (oi := ⟨some 91, Op.pick (Operand.tmp 80) (Operand.const (Value.bool true)) (Operand.tmp 90), 4, _, _, none⟩) (v := .bool false) rfl (fun _ _ _ h => h) (by rfl) (by assumption) (fun wS hSw => ?_) ?_
            · (try dsimp only at hSw); go_simp
            simp only [Act.put, List.setIfInBounds_toArray, List.set_cons_zero, List.set_cons_succ]
            refine wpAnyT_end ?_
            refine wpAnyH_listed #[true, true, true, true, true, true, true, true, true, true, true, true, true, true, true, true, true, true, true, true, true, true, true, true, true, true, true, true, true, true, true, true, true, true, true, true, true, true] (by kernel_rfl) ?_
            refine wpAnyH_done (by kernel_rfl) ?_ _
            clear Y0 Y1 Y2 Y3 Y4 hHeld
            go_wp2_with fail
            go_roundw
            case rel => exact ⟨_, J + 1, rfl, rfl, by omega, Lib.hid (HC.out.no (Hfv.out.trans rfl)), Y5.tail⟩
            case measure => simp [intOf]; omega
          · cases q
            · clear HQ
              go_upto_region 19 with fail
              refine wp_region_held_drew (S := (fun w' => (w'.cell? ⟨P, 0, none⟩ = some (.int .i64 I) ∧ w'.cell? ⟨P, 1, none⟩ = some (.int .i64 J) ∧ w'.cell? ⟨A, 0, none⟩ = some (.int .i64 x0) ∧ w'.cell? ⟨A, 1, none⟩ = some (.int .i64 x1) ∧ w'.cell? ⟨A, 2, none⟩ = some (.int .i64 x2) ∧ w'.cell? ⟨A, 3, none⟩ = some (.int .i64 x3) ∧ w'.cell? ⟨A, 4, none⟩ = some (.int .i64 x4) ∧ w'.cell? ⟨A, 5, none⟩ = some (.int .i64 x5) ∧ w'.cell? ⟨A, 6, none⟩ = some (.int .i64 x6) ∧ w'.cell? ⟨A, 7, none⟩ = some (.int .i64 x7)) ∧ Has w [(P, [.int .i64 I, .int .i64 J]), (A, [.int .i64 x0, .int .i64 x1, .int .i64 x2, .int .i64 x3, .int .i64 x4, .int .i64 x5, .int .i64 x6, .int .i64 x7])] w')) (by kernel_rfl) (Y0.ten) (fun hHeld => ?_)
              refine wpAnyT_begin [0, 1, 2, 3, 4, 5, 6, 7, 8, 10, 11] (by kernel_rfl) (by kernel_rfl) ?_
              refine wpAnyT_take (oi := ⟨some 54, Op.move (Operand.tmp 11), 4, _, _, none⟩) (v := .bool true) rfl (fun _ _ _ h => h) (by rfl) (by assumption) (fun wS hSw => ?_) ?_
              · (try dsimp only at hSw); go_simp
              simp only [Act.put, List.setIfInBounds_toArray, List.set_cons_zero, List.set_cons_succ]
              refine wpAnyT_take (oi := ⟨some 55, Op.indexAddr 39 (Operand.tmp 4) (Operand.const (Value.int IntKind.i64 0)), 0, _, _, none⟩) (v := .pointer (some ⟨A, 0, none⟩)) rfl (fun _ _ _ h => h) (by rfl) (by assumption) (fun wS hSw => ?_) ?_
              · (try dsimp only at hSw); go_simp
              simp only [Act.put, List.setIfInBounds_toArray, List.set_cons_zero, List.set_cons_succ]
              refine wpAnyT_take (oi := ⟨some 56, Op.fieldAddr 28 (Operand.tmp 55) 0, 0, _, _, none⟩) (v := .pointer (some ⟨A, 0, none⟩)) rfl (fun _ _ _ h => h) (by rfl) (by assumption) (fun wS hSw => ?_) ?_
              · (try dsimp only at hSw); go_simp
              simp only [Act.put, List.setIfInBounds_toArray, List.set_cons_zero, List.set_cons_succ]
              refine wpAnyT_take (oi := ⟨some 57, Op.load 3 (Operand.tmp 56), 3, _, _, none⟩) (v := .int .i64 x0) rfl (fun _ _ _ h => h) (by rfl) (by assumption) (fun wS hSw => ?_) ?_
              · (try dsimp only at hSw); go_simp
              simp only [Act.put, List.setIfInBounds_toArray, List.set_cons_zero, List.set_cons_succ]
              refine wpAnyT_take (oi := ⟨some 58, Op.binOp BinOp.mul 3 (Operand.const (Value.int IntKind.i64 2)) (Operand.tmp 57) 3, 3, _, _, none⟩) (v := .int .i64 d0) rfl (fun _ _ _ h => h) (by rfl) (by assumption) (fun wS hSw => ?_) ?_
              · (try dsimp only at hSw); go_simp
              simp only [Act.put, List.setIfInBounds_toArray, List.set_cons_zero, List.set_cons_succ]
              refine wpAnyT_take (oi := ⟨some 59, Op.indexAddr 39 (Operand.tmp 4) (Operand.const (Value.int IntKind.i64 0)), 0, _, _, none⟩) (v := .pointer (some ⟨A, 0, none⟩)) rfl (fun _ _ _ h => h) (by rfl) (by assumption) (fun wS hSw => ?_) ?_
              · (try dsimp only at hSw); go_simp
              simp only [Act.put, List.setIfInBounds_toArray, List.set_cons_zero, List.set_cons_succ]
              refine wpAnyT_take (oi := ⟨some 60, Op.fieldAddr 28 (Operand.tmp 59) 1, 0, _, _, none⟩) (v := .pointer (some ⟨A, 1, none⟩)) rfl (fun _ _ _ h => h) (by rfl) (by assumption) (fun wS hSw => ?_) ?_
              · (try dsimp only at hSw); go_simp
              simp only [Act.put, List.setIfInBounds_toArray, List.set_cons_zero, List.set_cons_succ]
              refine wpAnyT_take (oi := ⟨some 61, Op.load 3 (Operand.tmp 60), 3, _, _, none⟩) (v := .int .i64 x1) rfl (fun _ _ _ h => h) (by rfl) (by assumption) (fun wS hSw => ?_) ?_
              · (try dsimp only at hSw); go_simp
              simp only [Act.put, List.setIfInBounds_toArray, List.set_cons_zero, List.set_cons_succ]
              refine wpAnyT_take (oi := ⟨some 62, Op.binOp BinOp.mul 3 (Operand.const (Value.int IntKind.i64 2)) (Operand.tmp 61) 3, 3, _, _, none⟩) (v := .int .i64 d1) rfl (fun _ _ _ h => h) (by rfl) (by assumption) (fun wS hSw => ?_) ?_
              · (try dsimp only at hSw); go_simp
              simp only [Act.put, List.setIfInBounds_toArray, List.set_cons_zero, List.set_cons_succ]
              refine wpAnyT_take (oi := ⟨some 64, Op.indexAddr 39 (Operand.tmp 4) (Operand.const (Value.int IntKind.i64 1)), 0, _, _, none⟩) (v := .pointer (some ⟨A, 2, none⟩)) rfl (fun _ _ _ h => h) (by rfl) (by assumption) (fun wS hSw => ?_) ?_
              · (try dsimp only at hSw); go_simp
              simp only [Act.put, List.setIfInBounds_toArray, List.set_cons_zero, List.set_cons_succ]
              refine wpAnyT_take (oi := ⟨some 65, Op.fieldAddr 28 (Operand.tmp 64) 0, 0, _, _, none⟩) (v := .pointer (some ⟨A, 2, none⟩)) rfl (fun _ _ _ h => h) (by rfl) (by assumption) (fun wS hSw => ?_) ?_
              · (try dsimp only at hSw); go_simp
              simp only [Act.put, List.setIfInBounds_toArray, List.set_cons_zero, List.set_cons_succ]
              refine wpAnyT_end ?_
              refine wpAnyH_listed #[true, true, true, true, true, true, true, true, true, false, true, true, false, false, false, false, false, false, false, false, false, false, false, false, false, false, false, false, false, false, false, false, false, false, false, false, false, false] (by kernel_rfl) ?_
              refine wpAnyT_begin [12, 13, 14, 15, 16, 17, 19, 20, 21, 22] (by kernel_rfl) (by kernel_rfl) ?_
              refine wpAnyT_take (oi := ⟨some 66, Op.load 3 (Operand.tmp 65), 3, _, _, none⟩) (v := .int .i64 x2) rfl (fun _ _ _ h => h) (by rfl) (by assumption) (fun wS hSw => ?_) ?_
              · (try dsimp only at hSw); go_simp
              simp only [Act.put, List.setIfInBounds_toArray, List.set_cons_zero, List.set_cons_succ]
              refine wpAnyT_take (oi := ⟨some 67, Op.binOp BinOp.mul 3 (Operand.const (Value.int IntKind.i64 2)) (Operand.tmp 66) 3, 3, _, _, none⟩) (v := .int .i64 d2) rfl (fun _ _ _ h => h) (by rfl) (by assumption) (fun wS hSw => ?_) ?_
              · (try dsimp only at hSw); go_simp
              simp only [Act.put, List.setIfInBounds_toArray, List.set_cons_zero, List.set_cons_succ]
              refine wpAnyT_take (oi := ⟨some 68, Op.indexAddr 39 (Operand.tmp 4) (Operand.const (Value.int IntKind.i64 1)), 0, _, _, none⟩) (v := .pointer (some ⟨A, 2, none⟩)) rfl (fun _ _ _ h => h) (by rfl) (by assumption) (fun wS hSw => ?_) ?_
              · (try dsimp only at hSw); go_simp
              simp only [Act.put, List.setIfInBounds_toArray, List.set_cons_zero, List.set_cons_succ]
              refine wpAnyT_take (oi := ⟨some 69, Op.fieldAddr 28 (Operand.tmp 68) 1, 0, _, _, none⟩) (v := .pointer (some ⟨A, 3, none⟩)) rfl (fun _ _ _ h => h) (by rfl) (by assumption) (fun wS hSw => ?_) ?_
              · (try dsimp only at hSw); go_simp
              simp only [Act.put, List.setIfInBounds_toArray, List.set_cons_zero, List.set_cons_succ]
              refine wpAnyT_take (oi := ⟨some 70, Op.load 3 (Operand.tmp 69), 3, _, _, none⟩) (v := .int .i64 x3) rfl (fun _ _ _ h => h) (by rfl) (by assumption) (fun wS hSw => ?_) ?_
              · (try dsimp only at hSw); go_simp
              simp only [Act.put, List.setIfInBounds_toArray, List.set_cons_zero, List.set_cons_succ]
              refine wpAnyT_take (oi := ⟨some 71, Op.binOp BinOp.mul 3 (Operand.const (Value.int IntKind.i64 2)) (Operand.tmp 70) 3, 3, _, _, none⟩) (v := .int .i64 d3) rfl (fun _ _ _ h => h) (by rfl) (by assumption) (fun wS hSw => ?_) ?_
              · (try dsimp only at hSw); go_simp
              simp only [Act.put, List.setIfInBounds_toArray, List.set_cons_zero, List.set_cons_succ]
              refine wpAnyT_take (oi := ⟨some 73, Op.move (Operand.tmp 8), 3, _, _, none⟩) (v := .int .i64 I) rfl (fun _ _ _ h => h) (by rfl) (by assumption) (fun wS hSw => ?_) ?_
              · (try dsimp only at hSw); go_simp
              simp only [Act.put, List.setIfInBounds_toArray, List.set_cons_zero, List.set_cons_succ]
              refine wpAnyT_take (oi := ⟨some 74, Op.binOp BinOp.mul 3 (Operand.const (Value.int IntKind.i64 2)) (Operand.tmp 73) 3, 3, _, _, none⟩) (v := .int .i64 dI) rfl (fun _ _ _ h => h) (by rfl) (by assumption) (fun wS hSw => ?_) ?_
              · (try dsimp only at hSw); go_simp
              simp only [Act.put, List.setIfInBounds_toArray, List.set_cons_zero, List.set_cons_succ]
              refine wpAnyT_take (oi := ⟨some 75, Op.move (Operand.tmp 9), 3, _, _, none⟩) (v := .int .i64 J) rfl (fun _ _ _ h => h) (by rfl) (by assumption) (fun wS hSw => ?_) ?_
              · (try dsimp only at hSw); go_simp
              simp only [Act.put, List.setIfInBounds_toArray, List.set_cons_zero, List.set_cons_succ]
              refine wpAnyT_take (oi := ⟨some 76, Op.binOp BinOp.mul 3 (Operand.const (Value.int IntKind.i64 2)) (Operand.tmp 75) 3, 3, _, _, none⟩) (v := .int .i64 dJ) rfl (fun _ _ _ h => h) (by rfl) (by assumption) (fun wS hSw => ?_) ?_
              · (try dsimp only at hSw); go_simp
              simp only [Act.put, List.setIfInBounds_toArray, List.set_cons_zero, List.set_cons_succ]
              refine wpAnyT_end ?_
              refine wpAnyH_listed #[true, true, true, true, true, true, true, true, true, false, true, true, true, true, true, true, true, true, false, true, true, true, true, false, false, false, false, false, false, false, false, false, false, false, false, false, false, false] (by kernel_rfl) ?_
              refine wpAnyH_ready (rs := [9]) (by kernel_rfl) (by simp) ?_
              refine AllReadyH.cons (o := ⟨some 63, Op.call { callee := Callee.value (Operand.func 29), args := #[Operand.tmp 58, Operand.tmp 62], argTypes := #[3, 3] }, 28, _, _, none⟩) rfl (fun K hK => ?_) AllReadyH.nil
              go_simp
              go_at_call 29
              refine (Has.call Y0 (pt_any d0 d1 _)).mono ?_
              rintro e V1 ⟨rfl, Y1⟩
              go_wp2_with fail
              clear hHeld
              refine hK.out _ _ (Y1.ten) (fun hHeld => ?_)
              clear hK K
              try simp only [List.setIfInBounds_toArray, List.set_cons_zero, List.set_cons_succ]
              refine wpAnyH_listed #[true, true, true, true, true, true, true, true, true, true, true, true, true, true, true, true, true, true, false, true, true, true, true, false, false, false, false, false, false, false, false, false, false, false, false, false, false, false] (by kernel_rfl) ?_
              refine wpAnyH_ready (rs := [18]) (by kernel_rfl) (by simp) ?_
              refine AllReadyH.cons (o := ⟨some 72, Op.call { callee := Callee.value (Operand.func 29), args := #[Operand.tmp 67, Operand.tmp 71], argTypes := #[3, 3] }, 28, _, _, none⟩) rfl (fun K hK => ?_) AllReadyH.nil
              go_simp
              go_at_call 29
              refine (Has.call Y1 (pt_any d2 d3 _)).mono ?_
              rintro e V2 ⟨rfl, Y2⟩
              go_wp2_with fail
              clear hHeld
              refine hK.out _ _ (Y2.ten) (fun hHeld => ?_)
              clear hK K
              try simp only [List.setIfInBounds_toArray, List.set_cons_zero, List.set_cons_succ]
              refine wpAnyH_listed #[true, true, true, true, true, true, true, true, true, true, true, true, true, true, true, true, true, true, true, true, true, true, true, false, false, false, false, false, false, false, false, false, false, false, false, false, false, false] (by kernel_rfl) ?_
              refine wpAnyH_ready (rs := [23]) (by kernel_rfl) (by simp) ?_
              refine AllReadyH.cons (o := ⟨some 77, Op.call { callee := Callee.value (Operand.func 29), args := #[Operand.tmp 74, Operand.tmp 76], argTypes := #[3, 3] }, 28, _, _, none⟩) rfl (fun K hK => ?_) AllReadyH.nil
              go_simp
              go_at_call 29
              refine (Has.call Y2 (pt_any dI dJ _)).mono ?_
              rintro e V3 ⟨rfl, Y3⟩
              go_wp2_with fail
              clear hHeld
              refine hK.out _ _ (Y3.ten) (fun hHeld => ?_)
              clear hK K
              try simp only [List.setIfInBounds_toArray, List.set_cons_zero, List.set_cons_succ]
              refine wpAnyH_listed #[true, true, true, true, true, true, true, true, true, true, true, true, true, true, true, true, true, true, true, true, true, true, true, true, false, false, false, false, false, false, false, false, false, false, false, false, false, false] (by kernel_rfl) ?_
              refine wpAnyH_ready (rs := [24]) (by kernel_rfl) (by simp) ?_
              refine AllReadyH.cons (o := ⟨some 78, Op.call { callee := Callee.value (Operand.func 32), args := #[Operand.tmp 63, Operand.tmp 72, Operand.tmp 77], argTypes := #[28, 28, 28] }, 4, _, _, none⟩) rfl (fun K hK => ?_) AllReadyH.nil
              go_simp
              go_at_call 32
              refine (Has.call Y3 (on_is d0 d1 d2 d3 dI dJ true HO.out.2.1 _)).mono ?_
              rintro e V4 ⟨rfl, Y4⟩
              go_wp2_with fail
              clear hHeld
              refine hK.out _ _ (Y4.ten) (fun hHeld => ?_)
              clear hK K
              try simp only [List.setIfInBounds_toArray, List.set_cons_zero, List.set_cons_succ]
              refine wpAnyH_listed #[true, true, true, true, true, true, true, true, true, true, true, true, true, true, true, true, true, true, true, true, true, true, true, true, true, false, false, false, false, false, false, false, false, false, false, false, false, false] (by kernel_rfl) ?_
              refine wpAnyT_begin [25, 26, 27, 28, 29, 30, 31, 32, 33] (by kernel_rfl) (by kernel_rfl) ?_
              refine wpAnyT_take (oi := ⟨some 79, Op.binOp BinOp.neq 4 (Operand.tmp 54) (Operand.tmp 78) 4, 4, _, _, none⟩) (v := .bool false) rfl (fun _ _ _ h => h) (by rfl) (by assumption) (fun wS hSw => ?_) ?_
              · (try dsimp only at hSw); go_simp
              simp only [Act.put, List.setIfInBounds_toArray, List.set_cons_zero, List.set_cons_succ]
              refine wpAnyT_take (oi := ⟨some 80, Op.move (Operand.tmp 79), 4, _, _, none⟩) (v := .bool false) rfl (fun _ _ _ h => h) (by rfl) (by assumption) (fun wS hSw => ?_) ?_
              · (try dsimp only at hSw); go_simp
              simp only [Act.put, List.setIfInBounds_toArray, List.set_cons_zero, List.set_cons_succ]
              refine wpAnyT_take (oi := ⟨some 81, Op.move (Operand.tmp 11), 4, _, _, some (26, false)⟩) (v := .bool true) rfl (fun _ _ _ h => h) (by rfl) (by assumption) (fun wS hSw => ?_) ?_
              · (try dsimp only at hSw); go_simp
              simp only [Act.put, List.setIfInBounds_toArray, List.set_cons_zero, List.set_cons_succ]
              refine wpAnyT_take (oi := ⟨some 82, Op.indexAddr 39 (Operand.tmp 4) (Operand.const (Value.int IntKind.i64 0)), 0, _, _, some (26, false)⟩) (v := .pointer (some ⟨A, 0, none⟩)) rfl (fun _ _ _ h => h) (by rfl) (by assumption) (fun wS hSw => ?_) ?_
              · (try dsimp only at hSw); go_simp
              simp only [Act.put, List.setIfInBounds_toArray, List.set_cons_zero, List.set_cons_succ]
              refine wpAnyT_take (oi := ⟨some 83, Op.load 28 (Operand.tmp 82), 28, _, _, some (26, false)⟩) (v := .agg #[.int .i64 x0, .int .i64 x1]) rfl (fun _ _ _ h => h) (by rfl) (by assumption) (fun wS hSw => ?_) ?_
              · (try dsimp only at hSw); go_simp
              simp only [Act.put, List.setIfInBounds_toArray, List.set_cons_zero, List.set_cons_succ]
              refine wpAnyT_take (oi := ⟨some 84, Op.indexAddr 39 (Operand.tmp 4) (Operand.const (Value.int IntKind.i64 1)), 0, _, _, some (26, false)⟩) (v := .pointer (some ⟨A, 2, none⟩)) rfl (fun _ _ _ h => h) (by rfl) (by assumption) (fun wS hSw => ?_) ?_
              · (try dsimp only at hSw); go_simp
              simp only [Act.put, List.setIfInBounds_toArray, List.set_cons_zero, List.set_cons_succ]
              refine wpAnyT_take (oi := ⟨some 85, Op.load 28 (Operand.tmp 84), 28, _, _, some (26, false)⟩) (v := .agg #[.int .i64 x2, .int .i64 x3]) rfl (fun _ _ _ h => h) (by rfl) (by assumption) (fun wS hSw => ?_) ?_
              · (try dsimp only at hSw); go_simp
              simp only [Act.put, List.setIfInBounds_toArray, List.set_cons_zero, List.set_cons_succ]
              refine wpAnyT_take (oi := ⟨some 86, Op.load 28 (Operand.tmp 10), 28, _, _, some (26, false)⟩) (v := .agg #[.int .i64 I, .int .i64 J]) rfl (fun _ _ _ h => h) (by rfl) (by assumption) (fun wS hSw => ?_) ?_
              · (try dsimp only at hSw); go_simp
              simp only [Act.put, List.setIfInBounds_toArray, List.set_cons_zero, List.set_cons_succ]
              refine wpAnyT_take (oi := ⟨some 87, Op.load 28 (Operand.tmp 10), 28, _, _, some (26, false)⟩) (v := .agg #[.int .i64 I, .int .i64 J]) rfl (fun _ _ _ h => h) (by rfl) (by assumption) (fun wS hSw => ?_) ?_
              · (try dsimp only at hSw); go_simp
              simp only [Act.put, List.setIfInBounds_toArray, List.set_cons_zero, List.set_cons_succ]
              refine wpAnyT_end ?_
              refine wpAnyH_listed #[true, true, true, true, true, true, true, true, true, true, true, true, true, true, true, true, true, true, true, true, true, true, true, true, true, true, true, true, true, true, true, true, true, true, false, false, false, false] (by kernel_rfl) ?_
              refine wpAnyH_ready (rs := [34]) (by kernel_rfl) (by simp) ?_
              refine AllReadyH.cons (o := ⟨some 88, Op.call { callee := Callee.value (Operand.func 34), args := #[Operand.tmp 83, Operand.tmp 85, Operand.tmp 86, Operand.tmp 87], argTypes := #[28, 28, 28, 28] }, 3, _, _, some (26, false)⟩) rfl (fun K hK => ?_) AllReadyH.nil
              go_simp
              go_at_call 34
              refine (Has.call Y4 (meet_is x0 x1 x2 x3 I J I J me Hme.out _)).mono ?_
              rintro e V5 ⟨rfl, Y5⟩
              go_wp2_with fail
              clear hHeld
              refine hK.out _ _ (Y5.ten) (fun hHeld => ?_)
              clear hK K
              try simp only [List.setIfInBounds_toArray, List.set_cons_zero, List.set_cons_succ]
              refine wpAnyH_listed #[true, true, true, true, true, true, true, true, true, true, true, true, true, true, true, true, true, true, true, true, true, true, true, true, true, true, true, true, true, true, true, true, true, true, true, false, false, false] (by kernel_rfl) ?_
              refine wpAnyT_begin [35, 36, 37] (by kernel_rfl) (by kernel_rfl) ?_
              refine wpAnyT_take (oi := ⟨some 89, Op.binOp BinOp.eql 3 (Operand.tmp 88) (Operand.const (Value.int IntKind.i64 1)) 3, 4, _, _, some (26, false)⟩) (v := .bool true) rfl (fun _ _ _ h => h) (by rfl) (by assumption) (fun wS hSw => ?_) ?_
              · (try dsimp only at hSw); go_simp
              simp only [Act.put, List.setIfInBounds_toArray, List.set_cons_zero, List.set_cons_succ]
              refine wpAnyT_take (oi := ⟨some 90, Op.binOp BinOp.neq 4 (Operand.tmp 81) (Operand.tmp 89) 4, 4, _, _, some (26, false)⟩) (v := .bool false) rfl (fun _ _ _ h => h) (by rfl) (by assumption) (fun wS hSw => ?_) ?_
              · (try dsimp only at hSw); go_simp
              simp only [Act.put, List.setIfInBounds_toArray, List.set_cons_zero, List.set_cons_succ]
              refine wpAnyT_take (oi := ⟨some 91, Op.pick (Operand.tmp 80) (Operand.const (Value.bool true)) (Operand.tmp 90), 4, _, _, none⟩) (v := .bool false) rfl (fun _ _ _ h => h) (by rfl) (by assumption) (fun wS hSw => ?_) ?_
              · (try dsimp only at hSw); go_simp
              simp only [Act.put, List.setIfInBounds_toArray, List.set_cons_zero, List.set_cons_succ]
              refine wpAnyT_end ?_
              refine wpAnyH_listed #[true, true, true, true, true, true, true, true, true, true, true, true, true, true, true, true, true, true, true, true, true, true, true, true, true, true, true, true, true, true, true, true, true, true, true, true, true, true] (by kernel_rfl) ?_
              refine wpAnyH_done (by kernel_rfl) ?_ _
              clear Y0 Y1 Y2 Y3 Y4 hHeld
              go_wp2_with fail
              go_roundw
              case rel => exact ⟨_, J + 1, rfl, rfl, by omega, Lib.hid (HC.out.no (Hfv.out.trans rfl)), Y5.tail⟩
              case measure => simp [intOf]; omega
            · clear HQ
              go_upto_region 19 with fail
              refine wp_region_held_drew (S := (fun w' => (w'.cell? ⟨P, 0, none⟩ = some (.int .i64 I) ∧ w'.cell? ⟨P, 1, none⟩ = some (.int .i64 J) ∧ w'.cell? ⟨A, 0, none⟩ = some (.int .i64 x0) ∧ w'.cell? ⟨A, 1, none⟩ = some (.int .i64 x1) ∧ w'.cell? ⟨A, 2, none⟩ = some (.int .i64 x2) ∧ w'.cell? ⟨A, 3, none⟩ = some (.int .i64 x3) ∧ w'.cell? ⟨A, 4, none⟩ = some (.int .i64 x4) ∧ w'.cell? ⟨A, 5, none⟩ = some (.int .i64 x5) ∧ w'.cell? ⟨A, 6, none⟩ = some (.int .i64 x6) ∧ w'.cell? ⟨A, 7, none⟩ = some (.int .i64 x7)) ∧ Has w [(P, [.int .i64 I, .int .i64 J]), (A, [.int .i64 x0, .int .i64 x1, .int .i64 x2, .int .i64 x3, .int .i64 x4, .int .i64 x5, .int .i64 x6, .int .i64 x7])] w')) (by kernel_rfl) (Y0.ten) (fun hHeld => ?_)
              refine wpAnyT_begin [0, 1, 2, 3, 4, 5, 6, 7, 8, 10, 11] (by kernel_rfl) (by kernel_rfl) ?_
              refine wpAnyT_take (oi := ⟨some 54, Op.move (Operand.tmp 11), 4, _, _, none⟩) (v := .bool true) rfl (fun _ _ _ h => h) (by rfl) (by assumption) (fun wS hSw => ?_) ?_
              · (try dsimp only at hSw); go_simp
              simp only [Act.put, List.setIfInBounds_toArray, List.set_cons_zero, List.set_cons_succ]
              refine wpAnyT_take (oi := ⟨some 55, Op.indexAddr 39 (Operand.tmp 4) (Operand.const (Value.int IntKind.i64 0)), 0, _, _, none⟩) (v := .pointer (some ⟨A, 0, none⟩)) rfl (fun _ _ _ h => h) (by rfl) (by assumption) (fun wS hSw => ?_) ?_
              · (try dsimp only at hSw); go_simp
              simp only [Act.put, List.setIfInBounds_toArray, List.set_cons_zero, List.set_cons_succ]
              refine wpAnyT_take (oi := ⟨some 56, Op.fieldAddr 28 (Operand.tmp 55) 0, 0, _, _, none⟩) (v := .pointer (some ⟨A, 0, none⟩)) rfl (fun _ _ _ h => h) (by rfl) (by assumption) (fun wS hSw => ?_) ?_
              · (try dsimp only at hSw); go_simp
              simp only [Act.put, List.setIfInBounds_toArray, List.set_cons_zero, List.set_cons_succ]
              refine wpAnyT_take (oi := ⟨some 57, Op.load 3 (Operand.tmp 56), 3, _, _, none⟩) (v := .int .i64 x0) rfl (fun _ _ _ h => h) (by rfl) (by assumption) (fun wS hSw => ?_) ?_
              · (try dsimp only at hSw); go_simp
              simp only [Act.put, List.setIfInBounds_toArray, List.set_cons_zero, List.set_cons_succ]
              refine wpAnyT_take (oi := ⟨some 58, Op.binOp BinOp.mul 3 (Operand.const (Value.int IntKind.i64 2)) (Operand.tmp 57) 3, 3, _, _, none⟩) (v := .int .i64 d0) rfl (fun _ _ _ h => h) (by rfl) (by assumption) (fun wS hSw => ?_) ?_
              · (try dsimp only at hSw); go_simp
              simp only [Act.put, List.setIfInBounds_toArray, List.set_cons_zero, List.set_cons_succ]
              refine wpAnyT_take (oi := ⟨some 59, Op.indexAddr 39 (Operand.tmp 4) (Operand.const (Value.int IntKind.i64 0)), 0, _, _, none⟩) (v := .pointer (some ⟨A, 0, none⟩)) rfl (fun _ _ _ h => h) (by rfl) (by assumption) (fun wS hSw => ?_) ?_
              · (try dsimp only at hSw); go_simp
              simp only [Act.put, List.setIfInBounds_toArray, List.set_cons_zero, List.set_cons_succ]
              refine wpAnyT_take (oi := ⟨some 60, Op.fieldAddr 28 (Operand.tmp 59) 1, 0, _, _, none⟩) (v := .pointer (some ⟨A, 1, none⟩)) rfl (fun _ _ _ h => h) (by rfl) (by assumption) (fun wS hSw => ?_) ?_
              · (try dsimp only at hSw); go_simp
              simp only [Act.put, List.setIfInBounds_toArray, List.set_cons_zero, List.set_cons_succ]
              refine wpAnyT_take (oi := ⟨some 61, Op.load 3 (Operand.tmp 60), 3, _, _, none⟩) (v := .int .i64 x1) rfl (fun _ _ _ h => h) (by rfl) (by assumption) (fun wS hSw => ?_) ?_
              · (try dsimp only at hSw); go_simp
              simp only [Act.put, List.setIfInBounds_toArray, List.set_cons_zero, List.set_cons_succ]
              refine wpAnyT_take (oi := ⟨some 62, Op.binOp BinOp.mul 3 (Operand.const (Value.int IntKind.i64 2)) (Operand.tmp 61) 3, 3, _, _, none⟩) (v := .int .i64 d1) rfl (fun _ _ _ h => h) (by rfl) (by assumption) (fun wS hSw => ?_) ?_
              · (try dsimp only at hSw); go_simp
              simp only [Act.put, List.setIfInBounds_toArray, List.set_cons_zero, List.set_cons_succ]
              refine wpAnyT_take (oi := ⟨some 64, Op.indexAddr 39 (Operand.tmp 4) (Operand.const (Value.int IntKind.i64 1)), 0, _, _, none⟩) (v := .pointer (some ⟨A, 2, none⟩)) rfl (fun _ _ _ h => h) (by rfl) (by assumption) (fun wS hSw => ?_) ?_
              · (try dsimp only at hSw); go_simp
              simp only [Act.put, List.setIfInBounds_toArray, List.set_cons_zero, List.set_cons_succ]
              refine wpAnyT_take (oi := ⟨some 65, Op.fieldAddr 28 (Operand.tmp 64) 0, 0, _, _, none⟩) (v := .pointer (some ⟨A, 2, none⟩)) rfl (fun _ _ _ h => h) (by rfl) (by assumption) (fun wS hSw => ?_) ?_
              · (try dsimp only at hSw); go_simp
              simp only [Act.put, List.setIfInBounds_toArray, List.set_cons_zero, List.set_cons_succ]
              refine wpAnyT_end ?_
              refine wpAnyH_listed #[true, true, true, true, true, true, true, true, true, false, true, true, false, false, false, false, false, false, false, false, false, false, false, false, false, false, false, false, false, false, false, false, false, false, false, false, false, false] (by kernel_rfl) ?_
              refine wpAnyT_begin [12, 13, 14, 15, 16, 17, 19, 20, 21, 22] (by kernel_rfl) (by kernel_rfl) ?_
              refine wpAnyT_take (oi := ⟨some 66, Op.load 3 (Operand.tmp 65), 3, _, _, none⟩) (v := .int .i64 x2) rfl (fun _ _ _ h => h) (by rfl) (by assumption) (fun wS hSw => ?_) ?_
              · (try dsimp only at hSw); go_simp
              simp only [Act.put, List.setIfInBounds_toArray, List.set_cons_zero, List.set_cons_succ]
              refine wpAnyT_take (oi := ⟨some 67, Op.binOp BinOp.mul 3 (Operand.const (Value.int IntKind.i64 2)) (Operand.tmp 66) 3, 3, _, _, none⟩) (v := .int .i64 d2) rfl (fun _ _ _ h => h) (by rfl) (by assumption) (fun wS hSw => ?_) ?_
              · (try dsimp only at hSw); go_simp
              simp only [Act.put, List.setIfInBounds_toArray, List.set_cons_zero, List.set_cons_succ]
              refine wpAnyT_take (oi := ⟨some 68, Op.indexAddr 39 (Operand.tmp 4) (Operand.const (Value.int IntKind.i64 1)), 0, _, _, none⟩) (v := .pointer (some ⟨A, 2, none⟩)) rfl (fun _ _ _ h => h) (by rfl) (by assumption) (fun wS hSw => ?_) ?_
              · (try dsimp only at hSw); go_simp
              simp only [Act.put, List.setIfInBounds_toArray, List.set_cons_zero, List.set_cons_succ]
              refine wpAnyT_take (oi := ⟨some 69, Op.fieldAddr 28 (Operand.tmp 68) 1, 0, _, _, none⟩) (v := .pointer (some ⟨A, 3, none⟩)) rfl (fun _ _ _ h => h) (by rfl) (by assumption) (fun wS hSw => ?_) ?_
              · (try dsimp only at hSw); go_simp
              simp only [Act.put, List.setIfInBounds_toArray, List.set_cons_zero, List.set_cons_succ]
              refine wpAnyT_take (oi := ⟨some 70, Op.load 3 (Operand.tmp 69), 3, _, _, none⟩) (v := .int .i64 x3) rfl (fun _ _ _ h => h) (by rfl) (by assumption) (fun wS hSw => ?_) ?_
              · (try dsimp only at hSw); go_simp
              simp only [Act.put, List.setIfInBounds_toArray, List.set_cons_zero, List.set_cons_succ]
              refine wpAnyT_take (oi := ⟨some 71, Op.binOp BinOp.mul 3 (Operand.const (Value.int IntKind.i64 2)) (Operand.tmp 70) 3, 3, _, _, none⟩) (v := .int .i64 d3) rfl (fun _ _ _ h => h) (by rfl) (by assumption) (fun wS hSw => ?_) ?_
              · (try dsimp only at hSw); go_simp
              simp only [Act.put, List.setIfInBounds_toArray, List.set_cons_zero, List.set_cons_succ]
              refine wpAnyT_take (oi := ⟨some 73, Op.move (Operand.tmp 8), 3, _, _, none⟩) (v := .int .i64 I) rfl (fun _ _ _ h => h) (by rfl) (by assumption) (fun wS hSw => ?_) ?_
              · (try dsimp only at hSw); go_simp
              simp only [Act.put, List.setIfInBounds_toArray, List.set_cons_zero, List.set_cons_succ]
              refine wpAnyT_take (oi := ⟨some 74, Op.binOp BinOp.mul 3 (Operand.const (Value.int IntKind.i64 2)) (Operand.tmp 73) 3, 3, _, _, none⟩) (v := .int .i64 dI) rfl (fun _ _ _ h => h) (by rfl) (by assumption) (fun wS hSw => ?_) ?_
              · (try dsimp only at hSw); go_simp
              simp only [Act.put, List.setIfInBounds_toArray, List.set_cons_zero, List.set_cons_succ]
              refine wpAnyT_take (oi := ⟨some 75, Op.move (Operand.tmp 9), 3, _, _, none⟩) (v := .int .i64 J) rfl (fun _ _ _ h => h) (by rfl) (by assumption) (fun wS hSw => ?_) ?_
              · (try dsimp only at hSw); go_simp
              simp only [Act.put, List.setIfInBounds_toArray, List.set_cons_zero, List.set_cons_succ]
              refine wpAnyT_take (oi := ⟨some 76, Op.binOp BinOp.mul 3 (Operand.const (Value.int IntKind.i64 2)) (Operand.tmp 75) 3, 3, _, _, none⟩) (v := .int .i64 dJ) rfl (fun _ _ _ h => h) (by rfl) (by assumption) (fun wS hSw => ?_) ?_
              · (try dsimp only at hSw); go_simp
              simp only [Act.put, List.setIfInBounds_toArray, List.set_cons_zero, List.set_cons_succ]
              refine wpAnyT_end ?_
              refine wpAnyH_listed #[true, true, true, true, true, true, true, true, true, false, true, true, true, true, true, true, true, true, false, true, true, true, true, false, false, false, false, false, false, false, false, false, false, false, false, false, false, false] (by kernel_rfl) ?_
              refine wpAnyH_ready (rs := [9]) (by kernel_rfl) (by simp) ?_
              refine AllReadyH.cons (o := ⟨some 63, Op.call { callee := Callee.value (Operand.func 29), args := #[Operand.tmp 58, Operand.tmp 62], argTypes := #[3, 3] }, 28, _, _, none⟩) rfl (fun K hK => ?_) AllReadyH.nil
              go_simp
              go_at_call 29
              refine (Has.call Y0 (pt_any d0 d1 _)).mono ?_
              rintro e V1 ⟨rfl, Y1⟩
              go_wp2_with fail
              clear hHeld
              refine hK.out _ _ (Y1.ten) (fun hHeld => ?_)
              clear hK K
              try simp only [List.setIfInBounds_toArray, List.set_cons_zero, List.set_cons_succ]
              refine wpAnyH_listed #[true, true, true, true, true, true, true, true, true, true, true, true, true, true, true, true, true, true, false, true, true, true, true, false, false, false, false, false, false, false, false, false, false, false, false, false, false, false] (by kernel_rfl) ?_
              refine wpAnyH_ready (rs := [18]) (by kernel_rfl) (by simp) ?_
              refine AllReadyH.cons (o := ⟨some 72, Op.call { callee := Callee.value (Operand.func 29), args := #[Operand.tmp 67, Operand.tmp 71], argTypes := #[3, 3] }, 28, _, _, none⟩) rfl (fun K hK => ?_) AllReadyH.nil
              go_simp
              go_at_call 29
              refine (Has.call Y1 (pt_any d2 d3 _)).mono ?_
              rintro e V2 ⟨rfl, Y2⟩
              go_wp2_with fail
              clear hHeld
              refine hK.out _ _ (Y2.ten) (fun hHeld => ?_)
              clear hK K
              try simp only [List.setIfInBounds_toArray, List.set_cons_zero, List.set_cons_succ]
              refine wpAnyH_listed #[true, true, true, true, true, true, true, true, true, true, true, true, true, true, true, true, true, true, true, true, true, true, true, false, false, false, false, false, false, false, false, false, false, false, false, false, false, false] (by kernel_rfl) ?_
              refine wpAnyH_ready (rs := [23]) (by kernel_rfl) (by simp) ?_
              refine AllReadyH.cons (o := ⟨some 77, Op.call { callee := Callee.value (Operand.func 29), args := #[Operand.tmp 74, Operand.tmp 76], argTypes := #[3, 3] }, 28, _, _, none⟩) rfl (fun K hK => ?_) AllReadyH.nil
              go_simp
              go_at_call 29
              refine (Has.call Y2 (pt_any dI dJ _)).mono ?_
              rintro e V3 ⟨rfl, Y3⟩
              go_wp2_with fail
              clear hHeld
              refine hK.out _ _ (Y3.ten) (fun hHeld => ?_)
              clear hK K
              try simp only [List.setIfInBounds_toArray, List.set_cons_zero, List.set_cons_succ]
              refine wpAnyH_listed #[true, true, true, true, true, true, true, true, true, true, true, true, true, true, true, true, true, true, true, true, true, true, true, true, false, false, false, false, false, false, false, false, false, false, false, false, false, false] (by kernel_rfl) ?_
              refine wpAnyH_ready (rs := [24]) (by kernel_rfl) (by simp) ?_
              refine AllReadyH.cons (o := ⟨some 78, Op.call { callee := Callee.value (Operand.func 32), args := #[Operand.tmp 63, Operand.tmp 72, Operand.tmp 77], argTypes := #[28, 28, 28] }, 4, _, _, none⟩) rfl (fun K hK => ?_) AllReadyH.nil
              go_simp
              go_at_call 32
              refine (Has.call Y3 (on_is d0 d1 d2 d3 dI dJ true HO.out.2.1 _)).mono ?_
              rintro e V4 ⟨rfl, Y4⟩
              go_wp2_with fail
              clear hHeld
              refine hK.out _ _ (Y4.ten) (fun hHeld => ?_)
              clear hK K
              try simp only [List.setIfInBounds_toArray, List.set_cons_zero, List.set_cons_succ]
              refine wpAnyH_listed #[true, true, true, true, true, true, true, true, true, true, true, true, true, true, true, true, true, true, true, true, true, true, true, true, true, false, false, false, false, false, false, false, false, false, false, false, false, false] (by kernel_rfl) ?_
              refine wpAnyT_begin [25, 26, 27, 28, 29, 30, 31, 32, 33] (by kernel_rfl) (by kernel_rfl) ?_
              refine wpAnyT_take (oi := ⟨some 79, Op.binOp BinOp.neq 4 (Operand.tmp 54) (Operand.tmp 78) 4, 4, _, _, none⟩) (v := .bool false) rfl (fun _ _ _ h => h) (by rfl) (by assumption) (fun wS hSw => ?_) ?_
              · (try dsimp only at hSw); go_simp
              simp only [Act.put, List.setIfInBounds_toArray, List.set_cons_zero, List.set_cons_succ]
              refine wpAnyT_take (oi := ⟨some 80, Op.move (Operand.tmp 79), 4, _, _, none⟩) (v := .bool false) rfl (fun _ _ _ h => h) (by rfl) (by assumption) (fun wS hSw => ?_) ?_
              · (try dsimp only at hSw); go_simp
              simp only [Act.put, List.setIfInBounds_toArray, List.set_cons_zero, List.set_cons_succ]
              refine wpAnyT_take (oi := ⟨some 81, Op.move (Operand.tmp 11), 4, _, _, some (26, false)⟩) (v := .bool true) rfl (fun _ _ _ h => h) (by rfl) (by assumption) (fun wS hSw => ?_) ?_
              · (try dsimp only at hSw); go_simp
              simp only [Act.put, List.setIfInBounds_toArray, List.set_cons_zero, List.set_cons_succ]
              refine wpAnyT_take (oi := ⟨some 82, Op.indexAddr 39 (Operand.tmp 4) (Operand.const (Value.int IntKind.i64 0)), 0, _, _, some (26, false)⟩) (v := .pointer (some ⟨A, 0, none⟩)) rfl (fun _ _ _ h => h) (by rfl) (by assumption) (fun wS hSw => ?_) ?_
              · (try dsimp only at hSw); go_simp
              simp only [Act.put, List.setIfInBounds_toArray, List.set_cons_zero, List.set_cons_succ]
              refine wpAnyT_take (oi := ⟨some 83, Op.load 28 (Operand.tmp 82), 28, _, _, some (26, false)⟩) (v := .agg #[.int .i64 x0, .int .i64 x1]) rfl (fun _ _ _ h => h) (by rfl) (by assumption) (fun wS hSw => ?_) ?_
              · (try dsimp only at hSw); go_simp
              simp only [Act.put, List.setIfInBounds_toArray, List.set_cons_zero, List.set_cons_succ]
              refine wpAnyT_take (oi := ⟨some 84, Op.indexAddr 39 (Operand.tmp 4) (Operand.const (Value.int IntKind.i64 1)), 0, _, _, some (26, false)⟩) (v := .pointer (some ⟨A, 2, none⟩)) rfl (fun _ _ _ h => h) (by rfl) (by assumption) (fun wS hSw => ?_) ?_
              · (try dsimp only at hSw); go_simp
              simp only [Act.put, List.setIfInBounds_toArray, List.set_cons_zero, List.set_cons_succ]
              refine wpAnyT_take (oi := ⟨some 85, Op.load 28 (Operand.tmp 84), 28, _, _, some (26, false)⟩) (v := .agg #[.int .i64 x2, .int .i64 x3]) rfl (fun _ _ _ h => h) (by rfl) (by assumption) (fun wS hSw => ?_) ?_
              · (try dsimp only at hSw); go_simp
              simp only [Act.put, List.setIfInBounds_toArray, List.set_cons_zero, List.set_cons_succ]
              refine wpAnyT_take (oi := ⟨some 86, Op.load 28 (Operand.tmp 10), 28, _, _, some (26, false)⟩) (v := .agg #[.int .i64 I, .int .i64 J]) rfl (fun _ _ _ h => h) (by rfl) (by assumption) (fun wS hSw => ?_) ?_
              · (try dsimp only at hSw); go_simp
              simp only [Act.put, List.setIfInBounds_toArray, List.set_cons_zero, List.set_cons_succ]
              refine wpAnyT_take (oi := ⟨some 87, Op.load 28 (Operand.tmp 10), 28, _, _, some (26, false)⟩) (v := .agg #[.int .i64 I, .int .i64 J]) rfl (fun _ _ _ h => h) (by rfl) (by assumption) (fun wS hSw => ?_) ?_
              · (try dsimp only at hSw); go_simp
              simp only [Act.put, List.setIfInBounds_toArray, List.set_cons_zero, List.set_cons_succ]
              refine wpAnyT_end ?_
              refine wpAnyH_listed #[true, true, true, true, true, true, true, true, true, true, true, true, true, true, true, true, true, true, true, true, true, true, true, true, true, true, true, true, true, true, true, true, true, true, false, false, false, false] (by kernel_rfl) ?_
              refine wpAnyH_ready (rs := [34]) (by kernel_rfl) (by simp) ?_
              refine AllReadyH.cons (o := ⟨some 88, Op.call { callee := Callee.value (Operand.func 34), args := #[Operand.tmp 83, Operand.tmp 85, Operand.tmp 86, Operand.tmp 87], argTypes := #[28, 28, 28, 28] }, 3, _, _, some (26, false)⟩) rfl (fun K hK => ?_) AllReadyH.nil
              go_simp
              go_at_call 34
              refine (Has.call Y4 (meet_is x0 x1 x2 x3 I J I J me Hme.out _)).mono ?_
              rintro e V5 ⟨rfl, Y5⟩
              go_wp2_with fail
              clear hHeld
              refine hK.out _ _ (Y5.ten) (fun hHeld => ?_)
              clear hK K
              try simp only [List.setIfInBounds_toArray, List.set_cons_zero, List.set_cons_succ]
              refine wpAnyH_listed #[true, true, true, true, true, true, true, true, true, true, true, true, true, true, true, true, true, true, true, true, true, true, true, true, true, true, true, true, true, true, true, true, true, true, true, false, false, false] (by kernel_rfl) ?_
              refine wpAnyT_begin [35, 36, 37] (by kernel_rfl) (by kernel_rfl) ?_
              refine wpAnyT_take (oi := ⟨some 89, Op.binOp BinOp.eql 3 (Operand.tmp 88) (Operand.const (Value.int IntKind.i64 1)) 3, 4, _, _, some (26, false)⟩) (v := .bool true) rfl (fun _ _ _ h => h) (by rfl) (by assumption) (fun wS hSw => ?_) ?_
              · (try dsimp only at hSw); go_simp
              simp only [Act.put, List.setIfInBounds_toArray, List.set_cons_zero, List.set_cons_succ]
              refine wpAnyT_take (oi := ⟨some 90, Op.binOp BinOp.neq 4 (Operand.tmp 81) (Operand.tmp 89) 4, 4, _, _, some (26, false)⟩) (v := .bool false) rfl (fun _ _ _ h => h) (by rfl) (by assumption) (fun wS hSw => ?_) ?_
              · (try dsimp only at hSw); go_simp
              simp only [Act.put, List.setIfInBounds_toArray, List.set_cons_zero, List.set_cons_succ]
              refine wpAnyT_take (oi := ⟨some 91, Op.pick (Operand.tmp 80) (Operand.const (Value.bool true)) (Operand.tmp 90), 4, _, _, none⟩) (v := .bool false) rfl (fun _ _ _ h => h) (by rfl) (by assumption) (fun wS hSw => ?_) ?_
              · (try dsimp only at hSw); go_simp
              simp only [Act.put, List.setIfInBounds_toArray, List.set_cons_zero, List.set_cons_succ]
              refine wpAnyT_end ?_
              refine wpAnyH_listed #[true, true, true, true, true, true, true, true, true, true, true, true, true, true, true, true, true, true, true, true, true, true, true, true, true, true, true, true, true, true, true, true, true, true, true, true, true, true] (by kernel_rfl) ?_
              refine wpAnyH_done (by kernel_rfl) ?_ _
              clear Y0 Y1 Y2 Y3 Y4 hHeld
              go_wp2_with fail
              go_roundw
              case rel => exact ⟨_, J + 1, rfl, rfl, by omega, Lib.hid (HC.out.yes bI.1 ⟨bJ.1, hJ⟩ (Hfv.out.trans rfl)), Y5.tail⟩
              case measure => simp [intOf]; omega
        · obtain rfl : J = 13 := by omega
          go_wp2_with fail
          go_roundw
          case rel => exact ⟨N, I + 1, rfl, rfl, by omega, Lib.hid HC.out.next, G0⟩
          case measure => simp [intOf]; omega
    · obtain rfl : I = 13 := by omega
      obtain ⟨h1, h2, h3, h4⟩ := Geo.Cnt.all HL0.out HL1.out HL2.out HL3.out (Hf.out ▸ HC.out)
      obtain ⟨e1, e2⟩ := Geo.lattice_ends HL0.out HL1.out
      obtain ⟨me, hme⟩ : ∃ m, meetOf x0 x1 x2 x3 x4 x5 x6 x7 = m := ⟨_, rfl⟩
      rw [hme] at h1 h2 h3 h4
      have Hme := Lib.hid hme
      have He1 := Lib.hid e1
      have He2 := Lib.hid e2
      have H2 := Lib.hid h2
      have hN := HC.out.lo
      clear hme e1 e2 h2 HC
      obtain ⟨⟨k0, k1, k2, k3, k4, k5, k6, k7⟩, -⟩ := G0.eight
      go_wp2_with fail
      refine (Has.call G0 (meet_is x0 x1 x2 x3 x4 x5 x6 x7 me Hme.out _)).mono ?_
      rintro e v1 ⟨rfl, G1⟩
      clear k0 k1 k2 k3 k4 k5 k6 k7
      obtain ⟨⟨k0, k1, k2, k3, k4, k5, k6, k7⟩, -⟩ := G1.eight
      by_cases hm : me < 2
      · have hx1 : N ≤ me := by omega
        have hx2 : N ≤ 2 := by omega
        go_wp2_with fail
        refine (Has.call G1 (on_is x0 x1 x2 x3 x0 x1 true He1.out _)).mono ?_
        rintro e v2 ⟨rfl, G2⟩
        clear k0 k1 k2 k3 k4 k5 k6 k7
        obtain ⟨⟨k0, k1, k2, k3, k4, k5, k6, k7⟩, -⟩ := G2.eight
        go_wp2_with fail
        refine (Has.call G2 (on_is x0 x1 x2 x3 x2 x3 true He2.out _)).mono ?_
        rintro e v3 ⟨rfl, G3⟩
        go_wp2_with fail
        go_ret
        exact ⟨rfl, G3.low⟩
      · have hN2 : 0 < N := H2.out (by omega)
        by_cases hx2 : N ≤ 2
        · have hx1 : N ≤ me := by omega
          go_wp2_with fail
          refine (Has.call G1 (on_is x0 x1 x2 x3 x0 x1 true He1.out _)).mono ?_
          rintro e v2 ⟨rfl, G2⟩
          clear k0 k1 k2 k3 k4 k5 k6 k7
          obtain ⟨⟨k0, k1, k2, k3, k4, k5, k6, k7⟩, -⟩ := G2.eight
          go_wp2_with fail
          refine (Has.call G2 (on_is x0 x1 x2 x3 x2 x3 true He2.out _)).mono ?_
          rintro e v3 ⟨rfl, G3⟩
          go_wp2_with fail
          go_ret
          exact ⟨rfl, G3.low⟩
        · have hx3 : 2 < N := by omega
          have hx4 : 2 ≤ me := by omega
          go_wp2_with fail
          refine (Has.call G1 (on_is x0 x1 x2 x3 x0 x1 true He1.out _)).mono ?_
          rintro e v2 ⟨rfl, G2⟩
          clear k0 k1 k2 k3 k4 k5 k6 k7
          obtain ⟨⟨k0, k1, k2, k3, k4, k5, k6, k7⟩, -⟩ := G2.eight
          go_wp2_with fail
          refine (Has.call G2 (on_is x0 x1 x2 x3 x2 x3 true He2.out _)).mono ?_
          rintro e v3 ⟨rfl, G3⟩
          go_wp2_with fail
          go_ret
          exact ⟨rfl, G3.low⟩

end Go.Proofs.Ytoehojopoajcaaa
