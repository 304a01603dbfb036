/- Stops. -/
import Derived.Test.YtoaldbjcpfkcjaaGreatcKa
namespace Go.Proofs.YtoaldbjcpfkcjaaGreat
open Go.RowKit Go.Lib

theorem RowP.len0 {w : World} {u : Value} (h : RowP w u []) : ∃ a c, u = .slice a 0 c ∧ RowP w u [] := by
 have h0 := h
 obtain ⟨a, c, rfl, -⟩ := h
 exact ⟨a, c, rfl, h0⟩
theorem RowP.ends {w : World} {u : Value} {p : Int × Int} {ps : List (Int × Int)} (h : RowP w u (p :: ps)) (lv : Int) : ∃ b o n m c x0 y0 x1 y1, u = .slice (some ⟨b, o, none⟩) n c ∧ (n = m + 1 ∧ (n : Int) ≤ 9223372036854775807) ∧ (p :: ps)[0]? = some (x0, y0) ∧ (p :: ps)[m]? = some (x1, y1) ∧
  (p.1, p.2, lv) = (x0, y0, lv) ∧ (match (p :: ps).getLast? with | none => (0, 0, 0) | some p => (p.1, p.2, lv)) = (x1, y1, lv) := by
 obtain ⟨a, c, rfl, h1, h2, h3⟩ := h
 obtain ⟨b, o, rfl, -⟩ := h3.resolve_left (by simp)
 have hl : (p :: ps)[ps.length]? = some ((p :: ps).getLast (by simp)) := by
  rw [List.getLast_eq_getElem, List.getElem?_eq_getElem (by simp)]; rfl
 refine ⟨b, o, (p :: ps).length, ps.length, c, p.1, p.2, _, _, rfl, ⟨by simp, by omega⟩, rfl, hl, rfl, ?_⟩
 rw [List.getLast?_eq_some_getLast (by simp)]
set_option maxRecDepth 100000 in
set_option maxHeartbeats 2000000 in
theorem stops_any (t : Wy) (u : Value) (w : World) (hu : RowP w u t.ln) :
  Calls Tryz.prog 18 #[wv t u] w fun e w' => e = .returned (.tuple #[kv (fstK t), kv (lstK t)]) ∧ Below w.heap.size w w' := by
 obtain ⟨id, ln, lv, cl, nm, st, wt, ds⟩ := t
 cases ln with
 | nil =>
  obtain ⟨a, c, rfl, -⟩ := hu.len0
  unfold wv fstK lstK kv
  simp only [List.getLast?_nil]
  have C0 := ((Has.nil (Below.refl w.heap.size w)).push [.int .i64 id, .slice a 0 c, .int .i64 lv, .string cl, .string nm, .bool st, .int .i64 wt, .int .i64 ds] 44).push [.int .i64 0, .int .i64 0, .int .i64 0] 39 |>.push [.int .i64 0, .int .i64 0, .int .i64 0] 39
  simp only [size_alloc] at C0
  go_enter Tryz.func18, Tryz.ntmps18
  go_wp2_with fail
  change Has w [(w.heap.size + 1 + 1, [.int .i64 0, .int .i64 0, .int .i64 0]), (w.heap.size + 1, [.int .i64 0, .int .i64 0, .int .i64 0]), (w.heap.size, [.int .i64 id, .slice a 0 c, .int .i64 lv, .string cl, .string nm, .bool st, .int .i64 wt, .int .i64 ds])] (((w.alloc (.cells #[.int .i64 id, .slice a 0 c, .int .i64 lv, .string cl, .string nm, .bool st, .int .i64 wt, .int .i64 ds] 44)).alloc (.cells #[.int .i64 0, .int .i64 0, .int .i64 0] 39)).alloc (.cells #[.int .i64 0, .int .i64 0, .int .i64 0] 39)) at C0
  generalize (((w.alloc (.cells #[.int .i64 id, .slice a 0 c, .int .i64 lv, .string cl, .string nm, .bool st, .int .i64 wt, .int .i64 ds] 44)).alloc (.cells #[.int .i64 0, .int .i64 0, .int .i64 0] 39)).alloc (.cells #[.int .i64 0, .int .i64 0, .int .i64 0] 39)) = w0 at *
  have k0 := C0.tail.tail.fact (.head _) (i := 0) rfl
  have k1 := C0.tail.tail.fact (.head _) (i := 1) rfl
  have k2 := C0.tail.tail.fact (.head _) (i := 2) rfl
  have k3 := C0.tail.tail.fact (.head _) (i := 3) rfl
  have k4 := C0.tail.tail.fact (.head _) (i := 4) rfl
  have k5 := C0.tail.tail.fact (.head _) (i := 5) rfl
  have k6 := C0.tail.tail.fact (.head _) (i := 6) rfl
  have k7 := C0.tail.tail.fact (.head _) (i := 7) rfl
  go_wp2_with fail
  refine (Has.call C0 (stopping_is ⟨id, [], lv, cl, nm, st, wt, ds⟩ (.slice a 0 c) false rfl _ (hu.later C0.low))).mono ?_
  rintro e w1 ⟨rfl, C1⟩
  clear k0 k1 k2 k3 k4 k5 k6 k7 C0
  have f0 := C1.tail.free (.head _) (i := 0) rfl
  have g0 := C1.free (.head _) (i := 0) rfl
  have x0 := C1.tail.fact (.head _) (i := 0) rfl
  have y0 := C1.fact (.head _) (i := 0) rfl
  have f1 := C1.tail.free (.head _) (i := 1) rfl
  have g1 := C1.free (.head _) (i := 1) rfl
  have x1 := C1.tail.fact (.head _) (i := 1) rfl
  have y1 := C1.fact (.head _) (i := 1) rfl
  have f2 := C1.tail.free (.head _) (i := 2) rfl
  have g2 := C1.free (.head _) (i := 2) rfl
  have x2 := C1.tail.fact (.head _) (i := 2) rfl
  have y2 := C1.fact (.head _) (i := 2) rfl
  have C2 := ((((C1.swap.set 0 (by simp) (.int .i64 0)).set 1 (by simp) (.int .i64 0)).set 2 (by simp) (.int .i64 0)).swap.set 0 (by simp) (.int .i64 0)).set 1 (by simp) (.int .i64 0) |>.set 2 (by simp) (.int .i64 0)
  go_wp2_with fail
  change Has w [(w.heap.size + 1 + 1, [.int .i64 0, .int .i64 0, .int .i64 0]), (w.heap.size + 1, [.int .i64 0, .int .i64 0, .int .i64 0]), (w.heap.size, [.int .i64 id, .slice a 0 c, .int .i64 lv, .string cl, .string nm, .bool st, .int .i64 wt, .int .i64 ds])] ((((((w1.setCell ⟨w.heap.size + 1, 0, none⟩ (.int .i64 0)).setCell ⟨w.heap.size + 1, 1, none⟩ (.int .i64 0)).setCell ⟨w.heap.size + 1, 2, none⟩ (.int .i64 0)).setCell ⟨w.heap.size + 1 + 1, 0, none⟩ (.int .i64 0)).setCell ⟨w.heap.size + 1 + 1, 1, none⟩ (.int .i64 0)).setCell ⟨w.heap.size + 1 + 1, 2, none⟩ (.int .i64 0)) at C2
  generalize ((((((w1.setCell ⟨w.heap.size + 1, 0, none⟩ (.int .i64 0)).setCell ⟨w.heap.size + 1, 1, none⟩ (.int .i64 0)).setCell ⟨w.heap.size + 1, 2, none⟩ (.int .i64 0)).setCell ⟨w.heap.size + 1 + 1, 0, none⟩ (.int .i64 0)).setCell ⟨w.heap.size + 1 + 1, 1, none⟩ (.int .i64 0)).setCell ⟨w.heap.size + 1 + 1, 2, none⟩ (.int .i64 0)) = w2 at *
  clear C1
  have d0 := C2.tail.fact (.head _) (i := 0) rfl
  have d1 := C2.tail.fact (.head _) (i := 1) rfl
  have d2 := C2.tail.fact (.head _) (i := 2) rfl
  have e0 := C2.fact (.head _) (i := 0) rfl
  have e1 := C2.fact (.head _) (i := 1) rfl
  have e2 := C2.fact (.head _) (i := 2) rfl
  exact bodyPost_ret (v := .tuple #[.agg #[.int .i64 0, .int .i64 0, .int .i64 0], .agg #[.int .i64 0, .int .i64 0, .int .i64 0]]) (by simp [results, Tryz.results18, go_sem, d0, d1, d2, e0, e1, e2]) rfl ⟨rfl, C2.low⟩
 | cons p ps =>
  obtain ⟨b, o, n, m, c, x0, y0, x1, y1, rfl, hn, h0, h1, hf, hl⟩ := hu.ends lv
  have hk : fstK ⟨id, p :: ps, lv, cl, nm, st, wt, ds⟩ = (x0, y0, lv) ∧ lstK ⟨id, p :: ps, lv, cl, nm, st, wt, ds⟩ = (x1, y1, lv) := ⟨hf, by unfold lstK; exact hl⟩
  generalize hln : p :: ps = ln at *
  have HE := Lib.hid (show Ending.returned (.tuple #[.agg #[.int .i64 x0, .int .i64 y0, .int .i64 lv], .agg #[.int .i64 x1, .int .i64 y1, .int .i64 lv]]) = .returned (.tuple #[kv (fstK ⟨id, ln, lv, cl, nm, st, wt, ds⟩), kv (lstK ⟨id, ln, lv, cl, nm, st, wt, ds⟩)]) from by rw [hk.1, hk.2]; rfl)
  have HG := Lib.hid (show goes ⟨id, ln, lv, cl, nm, st, wt, ds⟩ = true from by unfold goes; rw [← hln]; simp)
  have HP := Lib.hid h0
  have HQ := Lib.hid h1
  have HR := Lib.hid hu
  have hm : IntKind.i64.wrap ((n : Int) - 1) = (m : Int) := by have := hn.2; rw [IntWalk.i64_in _ (by omega)]; omega
  have hmn : (m : Int) < n := by omega
  have hm0 : (0 : Int) < n := by omega
  have hn0 : ((n : Int) == 0) = false := by rw [beq_eq_false_iff_ne]; omega
  have hm1 : (0 : Int) ≤ m := by omega
  have hn3 : ¬ n = 0 := by omega
  have hn4 : 0 < n := by omega
  have hn5 : m < n := by omega
  obtain ⟨hn1, hn2⟩ := hn
  clear hk hf hl hln h0 h1 hu hn1
  unfold wv
  simp only
  have C0 := ((Has.nil (Below.refl w.heap.size w)).push [.int .i64 id, .slice (some ⟨b, o, none⟩) n c, .int .i64 lv, .string cl, .string nm, .bool st, .int .i64 wt, .int .i64 ds] 44).push [.int .i64 0, .int .i64 0, .int .i64 0] 39 |>.push [.int .i64 0, .int .i64 0, .int .i64 0] 39
  simp only [size_alloc] at C0
  go_enter Tryz.func18, Tryz.ntmps18
  go_wp2_with fail
  change Has w [(w.heap.size + 1 + 1, [.int .i64 0, .int .i64 0, .int .i64 0]), (w.heap.size + 1, [.int .i64 0, .int .i64 0, .int .i64 0]), (w.heap.size, [.int .i64 id, .slice (some ⟨b, o, none⟩) n c, .int .i64 lv, .string cl, .string nm, .bool st, .int .i64 wt, .int .i64 ds])] (((w.alloc (.cells #[.int .i64 id, .slice (some ⟨b, o, none⟩) n c, .int .i64 lv, .string cl, .string nm, .bool st, .int .i64 wt, .int .i64 ds] 44)).alloc (.cells #[.int .i64 0, .int .i64 0, .int .i64 0] 39)).alloc (.cells #[.int .i64 0, .int .i64 0, .int .i64 0] 39)) at C0
  generalize (((w.alloc (.cells #[.int .i64 id, .slice (some ⟨b, o, none⟩) n c, .int .i64 lv, .string cl, .string nm, .bool st, .int .i64 wt, .int .i64 ds] 44)).alloc (.cells #[.int .i64 0, .int .i64 0, .int .i64 0] 39)).alloc (.cells #[.int .i64 0, .int .i64 0, .int .i64 0] 39)) = w0 at *
  have k0 := C0.tail.tail.fact (.head _) (i := 0) rfl
  have k1 := C0.tail.tail.fact (.head _) (i := 1) rfl
  have k2 := C0.tail.tail.fact (.head _) (i := 2) rfl
  have k3 := C0.tail.tail.fact (.head _) (i := 3) rfl
  have k4 := C0.tail.tail.fact (.head _) (i := 4) rfl
  have k5 := C0.tail.tail.fact (.head _) (i := 5) rfl
  have k6 := C0.tail.tail.fact (.head _) (i := 6) rfl
  have k7 := C0.tail.tail.fact (.head _) (i := 7) rfl
  go_wp2_with fail
  refine (Has.call C0 (stopping_is ⟨id, ln, lv, cl, nm, st, wt, ds⟩ (.slice (some ⟨b, o, none⟩) n c) true HG.out _ (HR.out.later C0.low))).mono ?_
  rintro e w1 ⟨rfl, C1⟩
  clear k0 k1 k2 k3 k4 k5 k6 k7 C0
  go_wp2_with fail
  have HSD := Lib.hid (show ∀ w', Has w [(w.heap.size, [.int .i64 id, .slice (some ⟨b, o, none⟩) n c, .int .i64 lv, .string cl, .string nm, .bool st, .int .i64 wt, .int .i64 ds])] w' → (w'.cell? ⟨w.heap.size, 0, none⟩ = some (.int .i64 id) ∧ w'.cell? ⟨w.heap.size, 1, none⟩ = some (.slice (some ⟨b, o, none⟩) n c) ∧ w'.cell? ⟨w.heap.size, 2, none⟩ = some (.int .i64 lv) ∧ w'.cell? ⟨w.heap.size, 3, none⟩ = some (.string cl) ∧ w'.cell? ⟨w.heap.size, 4, none⟩ = some (.string nm) ∧ w'.cell? ⟨w.heap.size, 5, none⟩ = some (.bool st) ∧ w'.cell? ⟨w.heap.size, 6, none⟩ = some (.int .i64 wt) ∧ w'.cell? ⟨w.heap.size, 7, none⟩ = some (.int .i64 ds) ∧ w'.cell? ⟨b, o, none⟩ = some (.int .i64 x0) ∧ w'.cell? ⟨b, o + 1, none⟩ = some (.int .i64 y0) ∧ w'.cell? ⟨b, o + m * 2, none⟩ = some (.int .i64 x1) ∧ w'.cell? ⟨b, o + m * 2 + 1, none⟩ = some (.int .i64 y1)) ∧ Has w [(w.heap.size, [.int .i64 id, .slice (some ⟨b, o, none⟩) n c, .int .i64 lv, .string cl, .string nm, .bool st, .int .i64 wt, .int .i64 ds])] w' from fun w' h => by
   have hR := HR.out.later h.low
   exact ⟨⟨h.fact (.head _) (i := 0) rfl, h.fact (.head _) (i := 1) rfl, h.fact (.head _) (i := 2) rfl, h.fact (.head _) (i := 3) rfl, h.fact (.head _) (i := 4) rfl, h.fact (.head _) (i := 5) rfl, h.fact (.head _) (i := 6) rfl, h.fact (.head _) (i := 7) rfl, (RowP.cells0 hR HP.out).1, (RowP.cells0 hR HP.out).2, (hR.cells HQ.out).1, (hR.cells HQ.out).2⟩, h⟩)
  have CD0 := C1.drew
  refine wp_region_held_drew (S := (fun w' => (w'.cell? ⟨w.heap.size, 0, none⟩ = some (.int .i64 id) ∧ w'.cell? ⟨w.heap.size, 1, none⟩ = some (.slice (some ⟨b, o, none⟩) n c) ∧ w'.cell? ⟨w.heap.size, 2, none⟩ = some (.int .i64 lv) ∧ w'.cell? ⟨w.heap.size, 3, none⟩ = some (.string cl) ∧ w'.cell? ⟨w.heap.size, 4, none⟩ = some (.string nm) ∧ w'.cell? ⟨w.heap.size, 5, none⟩ = some (.bool st) ∧ w'.cell? ⟨w.heap.size, 6, none⟩ = some (.int .i64 wt) ∧ w'.cell? ⟨w.heap.size, 7, none⟩ = some (.int .i64 ds) ∧ w'.cell? ⟨b, o, none⟩ = some (.int .i64 x0) ∧ w'.cell? ⟨b, o + 1, none⟩ = some (.int .i64 y0) ∧ w'.cell? ⟨b, o + m * 2, none⟩ = some (.int .i64 x1) ∧ w'.cell? ⟨b, o + m * 2 + 1, none⟩ = some (.int .i64 y1)) ∧ Has w [(w.heap.size, [.int .i64 id, .slice (some ⟨b, o, none⟩) n c, .int .i64 lv, .string cl, .string nm, .bool st, .int .i64 wt, .int .i64 ds])] w')) (by kernel_rfl) (HSD.out _ (CD0.tail.tail)) (fun hHeld => ?_)
  clear C1
  generalize w1.drew = WD0 at *
  refine tbA [0, 1, 2, 3, 4, 5] ?_
  refine tkA (.pointer (some ⟨w.heap.size, 1, none⟩)) (oi := ⟨some 9, .fieldAddr 44 (.tmp 1) 1, 0, _, _, none⟩) ?_
  simp only [Act.put, pA, pB, pC]
  refine tkA (.slice (some ⟨b, o, none⟩) n c) (oi := ⟨some 10, .load 42 (.tmp 9), 42, _, _, none⟩) ?_
  simp only [Act.put, pA, pB, pC]
  refine tkA (.pointer (some ⟨b, o, none⟩)) (oi := ⟨some 11, .indexAddr 42 (.tmp 10) (.const (.int .i64 0)), 0, _, _, none⟩) ?_
  simp only [Act.put, pA, pB, pC]
  refine tkA (.agg #[.int .i64 x0, .int .i64 y0]) (oi := ⟨some 12, .load 37 (.tmp 11), 37, _, _, none⟩) ?_
  simp only [Act.put, pA, pB, pC]
  refine tkA (.pointer (some ⟨w.heap.size, 2, none⟩)) (oi := ⟨some 13, .fieldAddr 44 (.tmp 1) 2, 0, _, _, none⟩) ?_
  simp only [Act.put, pA, pB, pC]
  refine tkA (.int .i64 lv) (oi := ⟨some 14, .load 3 (.tmp 13), 3, _, _, none⟩) ?_
  simp only [Act.put, pA, pB, pC]
  refine teA ?_
  refine tlA #[true, true, true, true, true, true, false, false, false, false, false, false, false, false, false, false, false, false, false, false] ?_
  refine tbA [6, 7, 8, 9, 10, 11] ?_
  refine tkA (.agg #[.int .i64 x0, .int .i64 y0, .int .i64 lv]) (oi := ⟨some 15, .build 39 #[(0, .tmp 12), (1, .tmp 14)], 39, _, _, none⟩) ?_
  simp only [Act.put, pA, pB, pC]
  refine tkA (.pointer (some ⟨w.heap.size, 1, none⟩)) (oi := ⟨some 16, .fieldAddr 44 (.tmp 1) 1, 0, _, _, none⟩) ?_
  simp only [Act.put, pA, pB, pC]
  refine tkA (.slice (some ⟨b, o, none⟩) n c) (oi := ⟨some 17, .load 42 (.tmp 16), 42, _, _, none⟩) ?_
  simp only [Act.put, pA, pB, pC]
  refine tkA (.pointer (some ⟨w.heap.size, 1, none⟩)) (oi := ⟨some 18, .fieldAddr 44 (.tmp 1) 1, 0, _, _, none⟩) ?_
  simp only [Act.put, pA, pB, pC]
  refine tkA (.slice (some ⟨b, o, none⟩) n c) (oi := ⟨some 19, .load 42 (.tmp 18), 42, _, _, none⟩) ?_
  simp only [Act.put, pA, pB, pC]
  refine tkA (.int .i64 (n : Int)) (oi := ⟨some 20, .call { callee := .builtin .len, args := #[.tmp 19], argTypes := #[42] }, 3, _, _, none⟩) ?_
  simp only [Act.put, pA, pB, pC]
  refine teA ?_
  refine tlA #[true, true, true, true, true, true, true, true, true, true, true, true, false, false, false, false, false, false, false, false] ?_
  refine tbA [12, 13, 14, 15, 16, 17] ?_
  refine tkA (.int .i64 (m : Int)) (oi := ⟨some 21, .binOp .sub 3 (.tmp 20) (.const (.int .i64 1)) 3, 3, _, _, none⟩) ?_
  simp only [Act.put, pA, pB, pC]
  refine tkA (.pointer (some ⟨b, o + m * 2, none⟩)) (oi := ⟨some 22, .indexAddr 42 (.tmp 17) (.tmp 21), 0, _, _, none⟩) ?_
  simp only [Act.put, pA, pB, pC]
  refine tkA (.agg #[.int .i64 x1, .int .i64 y1]) (oi := ⟨some 23, .load 37 (.tmp 22), 37, _, _, none⟩) ?_
  simp only [Act.put, pA, pB, pC]
  refine tkA (.pointer (some ⟨w.heap.size, 2, none⟩)) (oi := ⟨some 24, .fieldAddr 44 (.tmp 1) 2, 0, _, _, none⟩) ?_
  simp only [Act.put, pA, pB, pC]
  refine tkA (.int .i64 lv) (oi := ⟨some 25, .load 3 (.tmp 24), 3, _, _, none⟩) ?_
  simp only [Act.put, pA, pB, pC]
  refine tkA (.agg #[.int .i64 x1, .int .i64 y1, .int .i64 lv]) (oi := ⟨some 26, .build 39 #[(0, .tmp 23), (1, .tmp 25)], 39, _, _, none⟩) ?_
  simp only [Act.put, pA, pB, pC]
  refine teA ?_
  refine tlA #[true, true, true, true, true, true, true, true, true, true, true, true, true, true, true, true, true, true, false, false] ?_
  refine trA [18] ?_
  refine AllReadyH.cons (o := ⟨none, .store 39 (.tmp 2) (.tmp 15), 0, _, _, none⟩) rfl (fun K hK => ?_) AllReadyH.nil
  have s0 := CD0.tail.fact (.head _) (i := 0) rfl
  have s1 := CD0.tail.fact (.head _) (i := 1) rfl
  have s2 := CD0.tail.fact (.head _) (i := 2) rfl
  have t0 := CD0.tail.free (.head _) (i := 0) rfl
  have t1 := CD0.tail.free (.head _) (i := 1) rfl
  have t2 := CD0.tail.free (.head _) (i := 2) rfl
  go_simp
  have CD1 : Has w [(w.heap.size + 1 + 1, [.int .i64 0, .int .i64 0, .int .i64 0]), (w.heap.size + 1, [.int .i64 x0, .int .i64 y0, .int .i64 lv]), (w.heap.size, [.int .i64 id, .slice (some ⟨b, o, none⟩) n c, .int .i64 lv, .string cl, .string nm, .bool st, .int .i64 wt, .int .i64 ds])] (World.setCell (World.setCell (World.setCell WD0 ⟨w.heap.size + 1, 0, none⟩ (.int .i64 x0)) ⟨w.heap.size + 1, 1, none⟩ (.int .i64 y0)) ⟨w.heap.size + 1, 2, none⟩ (.int .i64 lv)) := (Has.set ((Has.set ((Has.set (CD0.swap) 0 (by simp) (.int .i64 x0))) 1 (by simp) (.int .i64 y0))) 2 (by simp) (.int .i64 lv)).swap
  generalize (World.setCell (World.setCell (World.setCell WD0 ⟨w.heap.size + 1, 0, none⟩ (.int .i64 x0)) ⟨w.heap.size + 1, 1, none⟩ (.int .i64 y0)) ⟨w.heap.size + 1, 2, none⟩ (.int .i64 lv)) = WD1 at *
  clear s0 t0 s1 t1 s2 t2 CD0
  clear hHeld
  refine hK.out _ _ (HSD.out _ (CD1.tail.tail)) (fun hHeld => ?_)
  clear hK K
  try simp only [pA, pB, pC]
  refine tlA #[true, true, true, true, true, true, true, true, true, true, true, true, true, true, true, true, true, true, true, false] ?_
  refine trA [19] ?_
  refine AllReadyH.cons (o := ⟨none, .store 39 (.tmp 3) (.tmp 26), 0, _, _, none⟩) rfl (fun K hK => ?_) AllReadyH.nil
  have s0 := CD1.fact (.head _) (i := 0) rfl
  have s1 := CD1.fact (.head _) (i := 1) rfl
  have s2 := CD1.fact (.head _) (i := 2) rfl
  have t0 := CD1.free (.head _) (i := 0) rfl
  have t1 := CD1.free (.head _) (i := 1) rfl
  have t2 := CD1.free (.head _) (i := 2) rfl
  go_simp
  have CD2 : Has w [(w.heap.size + 1 + 1, [.int .i64 x1, .int .i64 y1, .int .i64 lv]), (w.heap.size + 1, [.int .i64 x0, .int .i64 y0, .int .i64 lv]), (w.heap.size, [.int .i64 id, .slice (some ⟨b, o, none⟩) n c, .int .i64 lv, .string cl, .string nm, .bool st, .int .i64 wt, .int .i64 ds])] (World.setCell (World.setCell (World.setCell WD1 ⟨w.heap.size + 1 + 1, 0, none⟩ (.int .i64 x1)) ⟨w.heap.size + 1 + 1, 1, none⟩ (.int .i64 y1)) ⟨w.heap.size + 1 + 1, 2, none⟩ (.int .i64 lv)) := (Has.set ((Has.set ((Has.set (CD1) 0 (by simp) (.int .i64 x1))) 1 (by simp) (.int .i64 y1))) 2 (by simp) (.int .i64 lv))
  generalize (World.setCell (World.setCell (World.setCell WD1 ⟨w.heap.size + 1 + 1, 0, none⟩ (.int .i64 x1)) ⟨w.heap.size + 1 + 1, 1, none⟩ (.int .i64 y1)) ⟨w.heap.size + 1 + 1, 2, none⟩ (.int .i64 lv)) = WD2 at *
  clear s0 t0 s1 t1 s2 t2 CD1
  clear hHeld
  refine hK.out _ _ (HSD.out _ (CD2.tail.tail)) (fun hHeld => ?_)
  clear hK K
  try simp only [pA, pB, pC]
  refine tlA #[true, true, true, true, true, true, true, true, true, true, true, true, true, true, true, true, true, true, true, true] ?_
  refine wpAnyH_done (by kernel_rfl) ?_ _
  clear hHeld
  clear HSD
  go_wp2_with fail
  have d0 := CD2.tail.fact (.head _) (i := 0) rfl
  have d1 := CD2.tail.fact (.head _) (i := 1) rfl
  have d2 := CD2.tail.fact (.head _) (i := 2) rfl
  have e0 := CD2.fact (.head _) (i := 0) rfl
  have e1 := CD2.fact (.head _) (i := 1) rfl
  have e2 := CD2.fact (.head _) (i := 2) rfl
  exact bodyPost_ret (v := .tuple #[.agg #[.int .i64 x0, .int .i64 y0, .int .i64 lv], .agg #[.int .i64 x1, .int .i64 y1, .int .i64 lv]]) (by simp [results, Tryz.results18, go_sem, d0, d1, d2, e0, e1, e2]) rfl ⟨HE.out, CD2.low⟩

theorem stops_is (t : Wy) (u : Value) (k l : Key) (hk : fstK t = k) (hl : lstK t = l) (w : World) (hu : RowP w u t.ln) :
  Calls Tryz.prog 18 #[wv t u] w fun e w' => e = .returned (.tuple #[kv k, kv l]) ∧ Below w.heap.size w w' := hk ▸ hl ▸ stops_any t u w hu
theorem stops_at (t : Wy) (u : Value) (p0 p1 p2 q0 q1 q2 : Int) (hk : fstK t = (p0, p1, p2)) (hl : lstK t = (q0, q1, q2)) (w : World) (hu : RowP w u t.ln) :
  Calls Tryz.prog 18 #[wv t u] w fun e w' => e = .returned (.tuple #[.agg #[.int .i64 p0, .int .i64 p1, .int .i64 p2], .agg #[.int .i64 q0, .int .i64 q1, .int .i64 q2]]) ∧ Below w.heap.size w w' := stops_is t u _ _ hk hl w hu
set_option maxRecDepth 100000 in
set_option maxHeartbeats 2000000 in
theorem rstops_any (t : Wy) (u : Value) (w : World) (hu : RowP w u t.ln) :
  Calls Tryz.prog 19 #[wv t u] w fun e w' => e = .returned (.tuple #[kv (fstK t), kv (lstK t)]) ∧ Below w.heap.size w w' := by
 obtain ⟨id, ln, lv, cl, nm, st, wt, ds⟩ := t
 cases ln with
 | nil =>
  obtain ⟨a, c, rfl, -⟩ := hu.len0
  unfold wv fstK lstK kv
  simp only [List.getLast?_nil]
  have C0 := ((Has.nil (Below.refl w.heap.size w)).push [.int .i64 id, .slice a 0 c, .int .i64 lv, .string cl, .string nm, .bool st, .int .i64 wt, .int .i64 ds] 44).push [.int .i64 0, .int .i64 0, .int .i64 0] 39 |>.push [.int .i64 0, .int .i64 0, .int .i64 0] 39
  simp only [size_alloc] at C0
  go_enter Tryz.func19, Tryz.ntmps19
  go_wp2_with fail
  change Has w [(w.heap.size + 1 + 1, [.int .i64 0, .int .i64 0, .int .i64 0]), (w.heap.size + 1, [.int .i64 0, .int .i64 0, .int .i64 0]), (w.heap.size, [.int .i64 id, .slice a 0 c, .int .i64 lv, .string cl, .string nm, .bool st, .int .i64 wt, .int .i64 ds])] (((w.alloc (.cells #[.int .i64 id, .slice a 0 c, .int .i64 lv, .string cl, .string nm, .bool st, .int .i64 wt, .int .i64 ds] 44)).alloc (.cells #[.int .i64 0, .int .i64 0, .int .i64 0] 39)).alloc (.cells #[.int .i64 0, .int .i64 0, .int .i64 0] 39)) at C0
  generalize (((w.alloc (.cells #[.int .i64 id, .slice a 0 c, .int .i64 lv, .string cl, .string nm, .bool st, .int .i64 wt, .int .i64 ds] 44)).alloc (.cells #[.int .i64 0, .int .i64 0, .int .i64 0] 39)).alloc (.cells #[.int .i64 0, .int .i64 0, .int .i64 0] 39)) = w0 at *
  have k0 := C0.tail.tail.fact (.head _) (i := 0) rfl
  have k1 := C0.tail.tail.fact (.head _) (i := 1) rfl
  have k2 := C0.tail.tail.fact (.head _) (i := 2) rfl
  have k3 := C0.tail.tail.fact (.head _) (i := 3) rfl
  have k4 := C0.tail.tail.fact (.head _) (i := 4) rfl
  have k5 := C0.tail.tail.fact (.head _) (i := 5) rfl
  have k6 := C0.tail.tail.fact (.head _) (i := 6) rfl
  have k7 := C0.tail.tail.fact (.head _) (i := 7) rfl
  have C2 := C0
  clear C0
  have d0 := C2.tail.fact (.head _) (i := 0) rfl
  have d1 := C2.tail.fact (.head _) (i := 1) rfl
  have d2 := C2.tail.fact (.head _) (i := 2) rfl
  have e0 := C2.fact (.head _) (i := 0) rfl
  have e1 := C2.fact (.head _) (i := 1) rfl
  have e2 := C2.fact (.head _) (i := 2) rfl
  exact bodyPost_ret (v := .tuple #[.agg #[.int .i64 0, .int .i64 0, .int .i64 0], .agg #[.int .i64 0, .int .i64 0, .int .i64 0]]) (by simp [results, Tryz.results19, go_sem, d0, d1, d2, e0, e1, e2]) rfl ⟨rfl, C2.low⟩
 | cons p ps =>
  obtain ⟨b, o, n, m, c, x0, y0, x1, y1, rfl, hn, h0, h1, hf, hl⟩ := hu.ends lv
  have hk : fstK ⟨id, p :: ps, lv, cl, nm, st, wt, ds⟩ = (x0, y0, lv) ∧ lstK ⟨id, p :: ps, lv, cl, nm, st, wt, ds⟩ = (x1, y1, lv) := ⟨hf, by unfold lstK; exact hl⟩
  generalize hln : p :: ps = ln at *
  have HE := Lib.hid (show Ending.returned (.tuple #[.agg #[.int .i64 x0, .int .i64 y0, .int .i64 lv], .agg #[.int .i64 x1, .int .i64 y1, .int .i64 lv]]) = .returned (.tuple #[kv (fstK ⟨id, ln, lv, cl, nm, st, wt, ds⟩), kv (lstK ⟨id, ln, lv, cl, nm, st, wt, ds⟩)]) from by rw [hk.1, hk.2]; rfl)
  have HG := Lib.hid (show goes ⟨id, ln, lv, cl, nm, st, wt, ds⟩ = true from by unfold goes; rw [← hln]; simp)
  have HP := Lib.hid h0
  have HQ := Lib.hid h1
  have HR := Lib.hid hu
  have hm : IntKind.i64.wrap ((n : Int) - 1) = (m : Int) := by have := hn.2; rw [IntWalk.i64_in _ (by omega)]; omega
  have hmn : (m : Int) < n := by omega
  have hm0 : (0 : Int) < n := by omega
  have hn0 : ((n : Int) == 0) = false := by rw [beq_eq_false_iff_ne]; omega
  have hm1 : (0 : Int) ≤ m := by omega
  have hn3 : ¬ n = 0 := by omega
  have hn4 : 0 < n := by omega
  have hn5 : m < n := by omega
  obtain ⟨hn1, hn2⟩ := hn
  clear hk hf hl hln h0 h1 hu hn1
  unfold wv
  simp only
  have C0 := ((Has.nil (Below.refl w.heap.size w)).push [.int .i64 id, .slice (some ⟨b, o, none⟩) n c, .int .i64 lv, .string cl, .string nm, .bool st, .int .i64 wt, .int .i64 ds] 44).push [.int .i64 0, .int .i64 0, .int .i64 0] 39 |>.push [.int .i64 0, .int .i64 0, .int .i64 0] 39
  simp only [size_alloc] at C0
  go_enter Tryz.func19, Tryz.ntmps19
  go_wp2_with fail
  change Has w [(w.heap.size + 1 + 1, [.int .i64 0, .int .i64 0, .int .i64 0]), (w.heap.size + 1, [.int .i64 0, .int .i64 0, .int .i64 0]), (w.heap.size, [.int .i64 id, .slice (some ⟨b, o, none⟩) n c, .int .i64 lv, .string cl, .string nm, .bool st, .int .i64 wt, .int .i64 ds])] (((w.alloc (.cells #[.int .i64 id, .slice (some ⟨b, o, none⟩) n c, .int .i64 lv, .string cl, .string nm, .bool st, .int .i64 wt, .int .i64 ds] 44)).alloc (.cells #[.int .i64 0, .int .i64 0, .int .i64 0] 39)).alloc (.cells #[.int .i64 0, .int .i64 0, .int .i64 0] 39)) at C0
  generalize (((w.alloc (.cells #[.int .i64 id, .slice (some ⟨b, o, none⟩) n c, .int .i64 lv, .string cl, .string nm, .bool st, .int .i64 wt, .int .i64 ds] 44)).alloc (.cells #[.int .i64 0, .int .i64 0, .int .i64 0] 39)).alloc (.cells #[.int .i64 0, .int .i64 0, .int .i64 0] 39)) = w0 at *
  have k0 := C0.tail.tail.fact (.head _) (i := 0) rfl
  have k1 := C0.tail.tail.fact (.head _) (i := 1) rfl
  have k2 := C0.tail.tail.fact (.head _) (i := 2) rfl
  have k3 := C0.tail.tail.fact (.head _) (i := 3) rfl
  have k4 := C0.tail.tail.fact (.head _) (i := 4) rfl
  have k5 := C0.tail.tail.fact (.head _) (i := 5) rfl
  have k6 := C0.tail.tail.fact (.head _) (i := 6) rfl
  have k7 := C0.tail.tail.fact (.head _) (i := 7) rfl
  have C1 := C0
  clear C0
  go_upto_region 3 with fail
  clear k0 k1 k2 k3 k4 k5 k6 k7
  have HSD := Lib.hid (show ∀ w', Has w [(w.heap.size, [.int .i64 id, .slice (some ⟨b, o, none⟩) n c, .int .i64 lv, .string cl, .string nm, .bool st, .int .i64 wt, .int .i64 ds])] w' → (w'.cell? ⟨w.heap.size, 0, none⟩ = some (.int .i64 id) ∧ w'.cell? ⟨w.heap.size, 1, none⟩ = some (.slice (some ⟨b, o, none⟩) n c) ∧ w'.cell? ⟨w.heap.size, 2, none⟩ = some (.int .i64 lv) ∧ w'.cell? ⟨w.heap.size, 3, none⟩ = some (.string cl) ∧ w'.cell? ⟨w.heap.size, 4, none⟩ = some (.string nm) ∧ w'.cell? ⟨w.heap.size, 5, none⟩ = some (.bool st) ∧ w'.cell? ⟨w.heap.size, 6, none⟩ = some (.int .i64 wt) ∧ w'.cell? ⟨w.heap.size, 7, none⟩ = some (.int .i64 ds) ∧ w'.cell? ⟨b, o, none⟩ = some (.int .i64 x0) ∧ w'.cell? ⟨b, o + 1, none⟩ = some (.int .i64 y0) ∧ w'.cell? ⟨b, o + m * 2, none⟩ = some (.int .i64 x1) ∧ w'.cell? ⟨b, o + m * 2 + 1, none⟩ = some (.int .i64 y1)) ∧ Has w [(w.heap.size, [.int .i64 id, .slice (some ⟨b, o, none⟩) n c, .int .i64 lv, .string cl, .string nm, .bool st, .int .i64 wt, .int .i64 ds])] w' from fun w' h => by
   have hR := HR.out.later h.low
   exact ⟨⟨h.fact (.head _) (i := 0) rfl, h.fact (.head _) (i := 1) rfl, h.fact (.head _) (i := 2) rfl, h.fact (.head _) (i := 3) rfl, h.fact (.head _) (i := 4) rfl, h.fact (.head _) (i := 5) rfl, h.fact (.head _) (i := 6) rfl, h.fact (.head _) (i := 7) rfl, (RowP.cells0 hR HP.out).1, (RowP.cells0 hR HP.out).2, (hR.cells HQ.out).1, (hR.cells HQ.out).2⟩, h⟩)
  have CD0 := C1.drew
  refine wp_region_held_drew (S := (fun w' => (w'.cell? ⟨w.heap.size, 0, none⟩ = some (.int .i64 id) ∧ w'.cell? ⟨w.heap.size, 1, none⟩ = some (.slice (some ⟨b, o, none⟩) n c) ∧ w'.cell? ⟨w.heap.size, 2, none⟩ = some (.int .i64 lv) ∧ w'.cell? ⟨w.heap.size, 3, none⟩ = some (.string cl) ∧ w'.cell? ⟨w.heap.size, 4, none⟩ = some (.string nm) ∧ w'.cell? ⟨w.heap.size, 5, none⟩ = some (.bool st) ∧ w'.cell? ⟨w.heap.size, 6, none⟩ = some (.int .i64 wt) ∧ w'.cell? ⟨w.heap.size, 7, none⟩ = some (.int .i64 ds) ∧ w'.cell? ⟨b, o, none⟩ = some (.int .i64 x0) ∧ w'.cell? ⟨b, o + 1, none⟩ = some (.int .i64 y0) ∧ w'.cell? ⟨b, o + m * 2, none⟩ = some (.int .i64 x1) ∧ w'.cell? ⟨b, o + m * 2 + 1, none⟩ = some (.int .i64 y1)) ∧ Has w [(w.heap.size, [.int .i64 id, .slice (some ⟨b, o, none⟩) n c, .int .i64 lv, .string cl, .string nm, .bool st, .int .i64 wt, .int .i64 ds])] w')) (by kernel_rfl) (HSD.out _ (CD0.tail.tail)) (fun hHeld => ?_)
  clear C1
  generalize w0.drew = WD0 at *
  refine tbA [0, 1, 2, 3, 4, 5] ?_
  refine tkA (.pointer (some ⟨w.heap.size, 1, none⟩)) (oi := ⟨some 10, .fieldAddr 44 (.tmp 1) 1, 0, _, _, none⟩) ?_
  simp only [Act.put, pA, pB, pC]
  refine tkA (.slice (some ⟨b, o, none⟩) n c) (oi := ⟨some 11, .load 42 (.tmp 10), 42, _, _, none⟩) ?_
  simp only [Act.put, pA, pB, pC]
  refine tkA (.pointer (some ⟨b, o, none⟩)) (oi := ⟨some 12, .indexAddr 42 (.tmp 11) (.const (.int .i64 0)), 0, _, _, none⟩) ?_
  simp only [Act.put, pA, pB, pC]
  refine tkA (.agg #[.int .i64 x0, .int .i64 y0]) (oi := ⟨some 13, .load 37 (.tmp 12), 37, _, _, none⟩) ?_
  simp only [Act.put, pA, pB, pC]
  refine tkA (.pointer (some ⟨w.heap.size, 2, none⟩)) (oi := ⟨some 14, .fieldAddr 44 (.tmp 1) 2, 0, _, _, none⟩) ?_
  simp only [Act.put, pA, pB, pC]
  refine tkA (.int .i64 lv) (oi := ⟨some 15, .load 3 (.tmp 14), 3, _, _, none⟩) ?_
  simp only [Act.put, pA, pB, pC]
  refine teA ?_
  refine tlA #[true, true, true, true, true, true, false, false, false, false, false, false, false, false, false, false, false, false, false, false] ?_
  refine tbA [6, 7, 8, 9, 10, 11] ?_
  refine tkA (.agg #[.int .i64 x0, .int .i64 y0, .int .i64 lv]) (oi := ⟨some 16, .build 39 #[(0, .tmp 13), (1, .tmp 15)], 39, _, _, none⟩) ?_
  simp only [Act.put, pA, pB, pC]
  refine tkA (.pointer (some ⟨w.heap.size, 1, none⟩)) (oi := ⟨some 17, .fieldAddr 44 (.tmp 1) 1, 0, _, _, none⟩) ?_
  simp only [Act.put, pA, pB, pC]
  refine tkA (.slice (some ⟨b, o, none⟩) n c) (oi := ⟨some 18, .load 42 (.tmp 17), 42, _, _, none⟩) ?_
  simp only [Act.put, pA, pB, pC]
  refine tkA (.pointer (some ⟨w.heap.size, 1, none⟩)) (oi := ⟨some 19, .fieldAddr 44 (.tmp 1) 1, 0, _, _, none⟩) ?_
  simp only [Act.put, pA, pB, pC]
  refine tkA (.slice (some ⟨b, o, none⟩) n c) (oi := ⟨some 20, .load 42 (.tmp 19), 42, _, _, none⟩) ?_
  simp only [Act.put, pA, pB, pC]
  refine tkA (.int .i64 (n : Int)) (oi := ⟨some 21, .call { callee := .builtin .len, args := #[.tmp 20], argTypes := #[42] }, 3, _, _, none⟩) ?_
  simp only [Act.put, pA, pB, pC]
  refine teA ?_
  refine tlA #[true, true, true, true, true, true, true, true, true, true, true, true, false, false, false, false, false, false, false, false] ?_
  refine tbA [12, 13, 14, 15, 16, 17] ?_
  refine tkA (.int .i64 (m : Int)) (oi := ⟨some 22, .binOp .sub 3 (.tmp 21) (.const (.int .i64 1)) 3, 3, _, _, none⟩) ?_
  simp only [Act.put, pA, pB, pC]
  refine tkA (.pointer (some ⟨b, o + m * 2, none⟩)) (oi := ⟨some 23, .indexAddr 42 (.tmp 18) (.tmp 22), 0, _, _, none⟩) ?_
  simp only [Act.put, pA, pB, pC]
  refine tkA (.agg #[.int .i64 x1, .int .i64 y1]) (oi := ⟨some 24, .load 37 (.tmp 23), 37, _, _, none⟩) ?_
  simp only [Act.put, pA, pB, pC]
  refine tkA (.pointer (some ⟨w.heap.size, 2, none⟩)) (oi := ⟨some 25, .fieldAddr 44 (.tmp 1) 2, 0, _, _, none⟩) ?_
  simp only [Act.put, pA, pB, pC]
  refine tkA (.int .i64 lv) (oi := ⟨some 26, .load 3 (.tmp 25), 3, _, _, none⟩) ?_
  simp only [Act.put, pA, pB, pC]
  refine tkA (.agg #[.int .i64 x1, .int .i64 y1, .int .i64 lv]) (oi := ⟨some 27, .build 39 #[(0, .tmp 24), (1, .tmp 26)], 39, _, _, none⟩) ?_
  simp only [Act.put, pA, pB, pC]
  refine teA ?_
  refine tlA #[true, true, true, true, true, true, true, true, true, true, true, true, true, true, true, true, true, true, false, false] ?_
  refine trA [18] ?_
  refine AllReadyH.cons (o := ⟨none, .store 39 (.tmp 2) (.tmp 16), 0, _, _, none⟩) rfl (fun K hK => ?_) AllReadyH.nil
  have s0 := CD0.tail.fact (.head _) (i := 0) rfl
  have s1 := CD0.tail.fact (.head _) (i := 1) rfl
  have s2 := CD0.tail.fact (.head _) (i := 2) rfl
  have t0 := CD0.tail.free (.head _) (i := 0) rfl
  have t1 := CD0.tail.free (.head _) (i := 1) rfl
  have t2 := CD0.tail.free (.head _) (i := 2) rfl
  go_simp
  have CD1 : Has w [(w.heap.size + 1 + 1, [.int .i64 0, .int .i64 0, .int .i64 0]), (w.heap.size + 1, [.int .i64 x0, .int .i64 y0, .int .i64 lv]), (w.heap.size, [.int .i64 id, .slice (some ⟨b, o, none⟩) n c, .int .i64 lv, .string cl, .string nm, .bool st, .int .i64 wt, .int .i64 ds])] (World.setCell (World.setCell (World.setCell WD0 ⟨w.heap.size + 1, 0, none⟩ (.int .i64 x0)) ⟨w.heap.size + 1, 1, none⟩ (.int .i64 y0)) ⟨w.heap.size + 1, 2, none⟩ (.int .i64 lv)) := (Has.set ((Has.set ((Has.set (CD0.swap) 0 (by simp) (.int .i64 x0))) 1 (by simp) (.int .i64 y0))) 2 (by simp) (.int .i64 lv)).swap
  generalize (World.setCell (World.setCell (World.setCell WD0 ⟨w.heap.size + 1, 0, none⟩ (.int .i64 x0)) ⟨w.heap.size + 1, 1, none⟩ (.int .i64 y0)) ⟨w.heap.size + 1, 2, none⟩ (.int .i64 lv)) = WD1 at *
  clear s0 t0 s1 t1 s2 t2 CD0
  clear hHeld
  refine hK.out _ _ (HSD.out _ (CD1.tail.tail)) (fun hHeld => ?_)
  clear hK K
  try simp only [pA, pB, pC]
  refine tlA #[true, true, true, true, true, true, true, true, true, true, true, true, true, true, true, true, true, true, true, false] ?_
  refine trA [19] ?_
  refine AllReadyH.cons (o := ⟨none, .store 39 (.tmp 3) (.tmp 27), 0, _, _, none⟩) rfl (fun K hK => ?_) AllReadyH.nil
  have s0 := CD1.fact (.head _) (i := 0) rfl
  have s1 := CD1.fact (.head _) (i := 1) rfl
  have s2 := CD1.fact (.head _) (i := 2) rfl
  have t0 := CD1.free (.head _) (i := 0) rfl
  have t1 := CD1.free (.head _) (i := 1) rfl
  have t2 := CD1.free (.head _) (i := 2) rfl
  go_simp
  have CD2 : Has w [(w.heap.size + 1 + 1, [.int .i64 x1, .int .i64 y1, .int .i64 lv]), (w.heap.size + 1, [.int .i64 x0, .int .i64 y0, .int .i64 lv]), (w.heap.size, [.int .i64 id, .slice (some ⟨b, o, none⟩) n c, .int .i64 lv, .string cl, .string nm, .bool st, .int .i64 wt, .int .i64 ds])] (World.setCell (World.setCell (World.setCell WD1 ⟨w.heap.size + 1 + 1, 0, none⟩ (.int .i64 x1)) ⟨w.heap.size + 1 + 1, 1, none⟩ (.int .i64 y1)) ⟨w.heap.size + 1 + 1, 2, none⟩ (.int .i64 lv)) := (Has.set ((Has.set ((Has.set (CD1) 0 (by simp) (.int .i64 x1))) 1 (by simp) (.int .i64 y1))) 2 (by simp) (.int .i64 lv))
  generalize (World.setCell (World.setCell (World.setCell WD1 ⟨w.heap.size + 1 + 1, 0, none⟩ (.int .i64 x1)) ⟨w.heap.size + 1 + 1, 1, none⟩ (.int .i64 y1)) ⟨w.heap.size + 1 + 1, 2, none⟩ (.int .i64 lv)) = WD2 at *
  clear s0 t0 s1 t1 s2 t2 CD1
  clear hHeld
  refine hK.out _ _ (HSD.out _ (CD2.tail.tail)) (fun hHeld => ?_)
  clear hK K
  try simp only [pA, pB, pC]
  refine tlA #[true, true, true, true, true, true, true, true, true, true, true, true, true, true, true, true, true, true, true, true] ?_
  refine wpAnyH_done (by kernel_rfl) ?_ _
  clear hHeld
  clear HSD
  go_wp2_with fail
  have d0 := CD2.tail.fact (.head _) (i := 0) rfl
  have d1 := CD2.tail.fact (.head _) (i := 1) rfl
  have d2 := CD2.tail.fact (.head _) (i := 2) rfl
  have e0 := CD2.fact (.head _) (i := 0) rfl
  have e1 := CD2.fact (.head _) (i := 1) rfl
  have e2 := CD2.fact (.head _) (i := 2) rfl
  exact bodyPost_ret (v := .tuple #[.agg #[.int .i64 x0, .int .i64 y0, .int .i64 lv], .agg #[.int .i64 x1, .int .i64 y1, .int .i64 lv]]) (by simp [results, Tryz.results19, go_sem, d0, d1, d2, e0, e1, e2]) rfl ⟨HE.out, CD2.low⟩

theorem rstops_is (t : Wy) (u : Value) (k l : Key) (hk : fstK t = k) (hl : lstK t = l) (w : World) (hu : RowP w u t.ln) :
  Calls Tryz.prog 19 #[wv t u] w fun e w' => e = .returned (.tuple #[kv k, kv l]) ∧ Below w.heap.size w w' := hk ▸ hl ▸ rstops_any t u w hu
theorem rstops_at (t : Wy) (u : Value) (p0 p1 p2 q0 q1 q2 : Int) (hk : fstK t = (p0, p1, p2)) (hl : lstK t = (q0, q1, q2)) (w : World) (hu : RowP w u t.ln) :
  Calls Tryz.prog 19 #[wv t u] w fun e w' => e = .returned (.tuple #[.agg #[.int .i64 p0, .int .i64 p1, .int .i64 p2], .agg #[.int .i64 q0, .int .i64 q1, .int .i64 q2]]) ∧ Below w.heap.size w w' := rstops_is t u _ _ hk hl w hu

end Go.Proofs.YtoaldbjcpfkcjaaGreat
