/- Whether a segment meets a line. -/
import Derived.Test.YtoaldbjcpfkcjaaGreatcSg
namespace Go.Proofs.YtoaldbjcpfkcjaaGreat
open Go.RowKit Go.Lib

/-- Whether a segment has a common point with a segment of a line. -/
def msK (a0 a1 b0 b1 : Int) (ps : List (Int × Int)) (j : Nat) : Bool := decide (0 < meetOf a0 a1 b0 b1 (pt ps j).1 (pt ps j).2 (pt ps (j + 1)).1 (pt ps (j + 1)).2)
def meetsP (a0 a1 b0 b1 : Int) (ps : List (Int × Int)) : Bool := anyTo (msK a0 a1 b0 b1 ps) (ps.length - 1)
set_option maxRecDepth 100000 in
set_option maxHeartbeats 2000000 in
theorem meets_any (a0 a1 b0 b1 : Int) (v : Value) (ps : List (Int × Int)) (w : World) (hv : RowP w v ps) :
  Calls Tryz.prog 48 #[.agg #[.int .i64 a0, .int .i64 a1], .agg #[.int .i64 b0, .int .i64 b1], v] w fun e w' => e = .returned (.bool (meetsP a0 a1 b0 b1 ps)) ∧ Below w.heap.size w w' := by
 obtain ⟨a, n, c, rfl, hn, hv⟩ := hv.form
 obtain ⟨-, hc1, hc2⟩ := hv.len
 rw [hn] at hc1
 have HV := Lib.hid hv
 have HN := Lib.hid hn
 obtain ⟨r, hr⟩ : ∃ r, meetsP a0 a1 b0 b1 ps = r := ⟨_, rfl⟩
 rw [hr]
 have HR := Lib.hid hr
 have hw1 : IntKind.i64.wrap ((n : Int) - 1) = (n : Int) - 1 := IntWalk.i64_in _ (by omega)
 clear hv hn hr
 have C0 := ((Has.nil (Below.refl w.heap.size w)).push [.int .i64 a0, .int .i64 a1] 37).push [.int .i64 b0, .int .i64 b1] 37
 simp only [size_alloc] at C0
 go_enter Tryz.func48, Tryz.ntmps48
 go_upto_region 1 with fail
 change Has w [(w.heap.size + 1, [.int .i64 b0, .int .i64 b1]), (w.heap.size, [.int .i64 a0, .int .i64 a1])] ((w.alloc (.cells #[.int .i64 a0, .int .i64 a1] 37)).alloc (.cells #[.int .i64 b0, .int .i64 b1] 37)) at C0
 generalize ((w.alloc (.cells #[.int .i64 a0, .int .i64 a1] 37)).alloc (.cells #[.int .i64 b0, .int .i64 b1] 37)) = w0 at *
 have HC0 := Lib.hid C0
 clear C0
 go_wp2_with fail
 clear hw1
 go_loopw [11] (fun i wr => ∃ k : Nat, k ≤ n ∧ i = .int .i64 k ∧ Hid (anyTo (msK a0 a1 b0 b1 ps) k = false ∧ k ≤ ps.length - 1 ∧ Has w [(w.heap.size + 1, [.int .i64 b0, .int .i64 b1]), (w.heap.size, [.int .i64 a0, .int .i64 a1])] wr)) (fun i _ => n - (RowKit.intOf i).toNat)
 case atStart => exact ⟨0, Nat.zero_le _, rfl, Lib.hid ⟨rfl, Nat.zero_le _, HC0.out⟩⟩
 case round =>
  obtain ⟨k, hk, rfl, HI⟩ := hrel
  by_cases hlt : k + 1 < n
  ·have b1' : (k : Int) < (n : Int) - 1 := by omega
   have b2 : (0 : Int) ≤ k := by omega
   have b3 : (k : Int) < n := by omega
   have b4 : (k : Int) + 1 < n := by omega
   have b5 : (0 : Int) ≤ (k : Int) + 1 := by omega
   have b6 : IntKind.i64.wrap ((k : Int) + 1) = (k : Int) + 1 := IntWalk.i64_in _ (by omega)
   have b7 : ((k : Int) + 1).toNat = k + 1 := by omega
   obtain ⟨b, o, rfl, -⟩ := HV.out.spot (by rw [HN.out]; omega)
   obtain ⟨x0, y0, hp⟩ := some_pt (ps := ps) (k := k) (by rw [HN.out]; omega)
   obtain ⟨x1, y1, hq⟩ := some_pt (ps := ps) (k := k + 1) (by rw [HN.out]; omega)
   have HP := Lib.hid hp
   have HQ := Lib.hid hq
   obtain ⟨m, hm⟩ : ∃ m, meetOf a0 a1 b0 b1 x0 y0 x1 y1 = m := ⟨_, rfl⟩
   have HM := Lib.hid hm
   have HS := Lib.hid (show msK a0 a1 b0 b1 ps k = decide (0 < m) from by unfold msK; rw [pt_of hp, pt_of hq, ← hm])
   have C1 := HI.out.2.2
   clear hp hq hm
   go_upto_region 4 with fail
   have HSD := Lib.hid (show ∀ w', Has w [(w.heap.size + 1, [.int .i64 b0, .int .i64 b1]), (w.heap.size, [.int .i64 a0, .int .i64 a1])] w' → (w'.cell? ⟨w.heap.size + 1, 0, none⟩ = some (.int .i64 b0) ∧ w'.cell? ⟨w.heap.size + 1, 1, none⟩ = some (.int .i64 b1) ∧ w'.cell? ⟨w.heap.size, 0, none⟩ = some (.int .i64 a0) ∧ w'.cell? ⟨w.heap.size, 1, none⟩ = some (.int .i64 a1) ∧ w'.cell? ⟨b, o + k * 2, none⟩ = some (.int .i64 x0) ∧ w'.cell? ⟨b, o + k * 2 + 1, none⟩ = some (.int .i64 y0) ∧ w'.cell? ⟨b, o + (k + 1) * 2, none⟩ = some (.int .i64 x1) ∧ w'.cell? ⟨b, o + (k + 1) * 2 + 1, none⟩ = some (.int .i64 y1)) ∧ Has w [(w.heap.size + 1, [.int .i64 b0, .int .i64 b1]), (w.heap.size, [.int .i64 a0, .int .i64 a1])] w' from fun w' h => by
    have hR := HV.out.later h.low
    exact ⟨⟨h.fact (.head _) (i := 0) rfl, h.fact (.head _) (i := 1) rfl, h.tail.fact (.head _) (i := 0) rfl, h.tail.fact (.head _) (i := 1) rfl, (hR.cells HP.out).1, (hR.cells HP.out).2, (hR.cells HQ.out).1, (hR.cells HQ.out).2⟩, h⟩)
   have CD0 := C1.drew
   refine wp_region_held_drew (S := (fun w' => (w'.cell? ⟨w.heap.size + 1, 0, none⟩ = some (.int .i64 b0) ∧ w'.cell? ⟨w.heap.size + 1, 1, none⟩ = some (.int .i64 b1) ∧ w'.cell? ⟨w.heap.size, 0, none⟩ = some (.int .i64 a0) ∧ w'.cell? ⟨w.heap.size, 1, none⟩ = some (.int .i64 a1) ∧ w'.cell? ⟨b, o + k * 2, none⟩ = some (.int .i64 x0) ∧ w'.cell? ⟨b, o + k * 2 + 1, none⟩ = some (.int .i64 y0) ∧ w'.cell? ⟨b, o + (k + 1) * 2, none⟩ = some (.int .i64 x1) ∧ w'.cell? ⟨b, o + (k + 1) * 2 + 1, none⟩ = some (.int .i64 y1)) ∧ Has w [(w.heap.size + 1, [.int .i64 b0, .int .i64 b1]), (w.heap.size, [.int .i64 a0, .int .i64 a1])] w')) (by kernel_rfl) (HSD.out _ (CD0)) (fun hHeld => ?_)
   clear C1
   generalize wr.drew = WD0 at *
   refine tbA [0, 1, 2, 3, 4, 5] ?_
   refine tkA (.agg #[.int .i64 a0, .int .i64 a1]) (oi := ⟨some 14, .load 37 (.tmp 3), 37, _, _, none⟩) ?_
   simp only [Act.put, pA, pB, pC]
   refine tkA (.agg #[.int .i64 b0, .int .i64 b1]) (oi := ⟨some 15, .load 37 (.tmp 4), 37, _, _, none⟩) ?_
   simp only [Act.put, pA, pB, pC]
   refine tkA (.slice (some ⟨b, o, none⟩) n c) (oi := ⟨some 16, .move (.tmp 2), 42, _, _, none⟩) ?_
   simp only [Act.put, pA, pB, pC]
   refine tkA (.int .i64 (k : Int)) (oi := ⟨some 17, .move (.tmp 7), 3, _, _, none⟩) ?_
   simp only [Act.put, pA, pB, pC]
   refine tkA (.pointer (some ⟨b, o + k * 2, none⟩)) (oi := ⟨some 18, .indexAddr 42 (.tmp 16) (.tmp 17), 0, _, _, none⟩) ?_
   simp only [Act.put, pA, pB, pC]
   refine tkA (.agg #[.int .i64 x0, .int .i64 y0]) (oi := ⟨some 19, .load 37 (.tmp 18), 37, _, _, none⟩) ?_
   simp only [Act.put, pA, pB, pC]
   refine teA ?_
   refine tlA #[true, true, true, true, true, true, false, false, false, false, false, false, false] ?_
   refine tbA [6, 7, 8, 9, 10] ?_
   refine tkA (.slice (some ⟨b, o, none⟩) n c) (oi := ⟨some 20, .move (.tmp 2), 42, _, _, none⟩) ?_
   simp only [Act.put, pA, pB, pC]
   refine tkA (.int .i64 (k : Int)) (oi := ⟨some 21, .move (.tmp 7), 3, _, _, none⟩) ?_
   simp only [Act.put, pA, pB, pC]
   refine tkA (.int .i64 ((k : Int) + 1)) (oi := ⟨some 22, .binOp .add 3 (.tmp 21) (.const (.int .i64 1)) 3, 3, _, _, none⟩) ?_
   simp only [Act.put, pA, pB, pC]
   refine tkA (.pointer (some ⟨b, o + (k + 1) * 2, none⟩)) (oi := ⟨some 23, .indexAddr 42 (.tmp 20) (.tmp 22), 0, _, _, none⟩) ?_
   simp only [Act.put, pA, pB, pC]
   refine tkA (.agg #[.int .i64 x1, .int .i64 y1]) (oi := ⟨some 24, .load 37 (.tmp 23), 37, _, _, none⟩) ?_
   simp only [Act.put, pA, pB, pC]
   refine teA ?_
   refine tlA #[true, true, true, true, true, true, true, true, true, true, true, false, false] ?_
   refine trA [11] ?_
   refine AllReadyH.cons (o := ⟨some 25, .call { callee := .value (.func 74), args := #[.tmp 14, .tmp 15, .tmp 19, .tmp 24], argTypes := #[37, 37, 37, 37] }, 3, _, _, none⟩) rfl (fun K hK => ?_) AllReadyH.nil
   go_simp
   go_at_call 74
   refine (Has.call CD0 (meet_is a0 a1 b0 b1 x0 y0 x1 y1 m HM.out _)).mono ?_
   rintro e WD1 ⟨rfl, CD1⟩
   go_wp2_with fail
   clear hHeld
   refine hK.out _ _ (HSD.out _ (CD1)) (fun hHeld => ?_)
   clear hK K
   try simp only [pA, pB, pC]
   refine tlA #[true, true, true, true, true, true, true, true, true, true, true, true, false] ?_
   clear CD0
   refine tbA [12] ?_
   refine tkA (.bool (decide (0 < m))) (oi := ⟨some 26, .binOp .gtr 3 (.tmp 25) (.const (.int .i64 0)) 3, 4, _, _, none⟩) ?_
   simp only [Act.put, pA, pB, pC]
   refine teA ?_
   refine tlA #[true, true, true, true, true, true, true, true, true, true, true, true, true] ?_
   refine wpAnyH_done (by kernel_rfl) ?_ _
   clear hHeld
   clear HSD
   by_cases h0 : 0 < m
   ·rw [show decide (0 < m) = true from decide_eq_true h0]
    have hr : r = true := HR.out.symm.trans (anyTo_yes (by rw [HS.out]; exact decide_eq_true h0) (by rw [HN.out]; omega)).symm
    subst hr
    have HD := Lib.hid CD1
    clear CD1 h0
    go_wp2_with fail
    go_ret
    exact ⟨rfl, HD.out.low⟩
   ·rw [show decide (0 < m) = false from decide_eq_false h0]
    have HD := Lib.hid (show anyTo (msK a0 a1 b0 b1 ps) (k + 1) = false ∧ k + 1 ≤ ps.length - 1 ∧ Has w [(w.heap.size + 1, [.int .i64 b0, .int .i64 b1]), (w.heap.size, [.int .i64 a0, .int .i64 a1])] WD1 from ⟨anyTo_no HI.out.1 (by rw [HS.out]; exact decide_eq_false h0), by rw [HN.out]; omega, CD1⟩)
    clear CD1 h0 b6 b7
    go_wp2_with fail
    go_roundw
    case rel => exact ⟨k + 1, by omega, by go_num, HD⟩
    case measure => simp [RowKit.intOf]; omega
  ·have b1' : (n : Int) - 1 ≤ k := by have := HI.out.2.1; rw [HN.out] at this; omega
   have hr : r = false := by
    rw [← HR.out]; unfold meetsP
    have : k = ps.length - 1 := by have := HI.out.2.1; rw [HN.out] at this ⊢; omega
    rw [← this]; exact HI.out.1
   subst hr
   go_wp2_with fail
   go_ret
   exact ⟨rfl, HI.out.2.2.low⟩
theorem meets_is (a0 a1 b0 b1 : Int) (v : Value) (ps : List (Int × Int)) (r : Bool) (h : meetsP a0 a1 b0 b1 ps = r) (w : World) (hv : RowP w v ps) :
  Calls Tryz.prog 48 #[.agg #[.int .i64 a0, .int .i64 a1], .agg #[.int .i64 b0, .int .i64 b1], v] w fun e w' => e = .returned (.bool r) ∧ Below w.heap.size w w' := h ▸ meets_any a0 a1 b0 b1 v ps w hv

end Go.Proofs.YtoaldbjcpfkcjaaGreat
