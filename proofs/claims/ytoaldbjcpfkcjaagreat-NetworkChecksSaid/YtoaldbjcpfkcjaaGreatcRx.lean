/- The reference's Cross. -/
import Derived.Test.YtoaldbjcpfkcjaaGreatcTy
namespace Go.Proofs.YtoaldbjcpfkcjaaGreat
open Go.RowKit Go.Lib Geo

theorem rmeet_is23 (a0 a1 b0 b1 c0 c1 d0 d1 s : Int) (h : meetOf a0 a1 b0 b1 c0 c1 d0 d1 = s) (w : World) :
  Calls Tryz.prog 49 #[.agg #[.int .i64 a0, .int .i64 a1], .agg #[.int .i64 b0, .int .i64 b1], .agg #[.int .i64 c0, .int .i64 c1], .agg #[.int .i64 d0, .int .i64 d1]] w fun e w' => e = .returned (.int .i64 s) ∧ Below w.heap.size w w' := h ▸ rmeet_any a0 a1 b0 b1 c0 c1 d0 d1 w
theorem meet_ins {a0 a1 b0 b1 c0 c1 d0 d1 : Int} (h : meetOf a0 a1 b0 b1 c0 c1 d0 d1 ≠ 0) : In a0 a1 ∧ In b0 b1 ∧ In c0 c1 ∧ In d0 d1 := by
 unfold meetOf at h
 split at h
 ·next g => exact g
 ·exact absurd rfl h
def ccJ (l m : List (Int × Int)) (i : Nat) : Bool := anyTo (fun j => decide (0 < rcX l m i j)) (m.length - 1)
theorem crossW_plain (x y : Wy) : crossW x y = (decide (x.lv ≠ y.lv) && anyTo (ccJ x.ln y.ln) (x.ln.length - 1)) := by
 unfold crossW
 congr 1
 refine anyTo_congr fun i hi => ?_
 rw [Bool.eq_iff_iff]
 unfold crK ccJ
 rw [Bool.and_eq_true, anyTo_iff]
 unfold meetsP
 rw [anyTo_iff]
 constructor
 ·rintro ⟨-, j, hj, h⟩
  exact ⟨j, hj, h⟩
 ·rintro ⟨j, hj, h⟩
  refine ⟨?_, j, hj, h⟩
  have h0 : 0 < rcX x.ln y.ln i j := of_decide_eq_true h
  have hne : rcX x.ln y.ln i j ≠ 0 := by omega
  obtain ⟨i1, i2, i3, i4⟩ := meet_ins hne
  exact near_of (l := [pt x.ln i, pt x.ln (i + 1)]) (m := y.ln) (i := 0) (j := j) (by simp) (by omega) (bnear_of_meet i1 i2 i3 i4 hne)
set_option linter.unusedSimpArgs false in
set_option maxRecDepth 100000 in
set_option maxHeartbeats 8000000 in
theorem rcrossw_any (x y : Wy) (u v : Value) (w : World) (hu : RowP w u x.ln) (hv : RowP w v y.ln) :
  Calls Tryz.prog 23 #[wv x u, wv y v] w fun e w' => e = .returned (.bool (crossW x y)) ∧ Below w.heap.size w w' := by
 obtain ⟨res, hres⟩ : ∃ res, crossW x y = res := ⟨_, rfl⟩
 rw [hres]
 rw [crossW_plain] at hres
 obtain ⟨aid, aln, alv, acl, anm, ast, awt, ads⟩ := x
 obtain ⟨bid, bln, blv, bcl, bnm, bst, bwt, bds⟩ := y
 obtain ⟨aa, N, ac, rfl, hN, hu⟩ := hu.form
 obtain ⟨ba, K, bc, rfl, hK, hv⟩ := hv.form
 have C0 := (has2 (w := w) [.int .i64 aid, .slice aa N ac, .int .i64 alv, .string acl, .string anm, .bool ast, .int .i64 awt, .int .i64 ads] [.int .i64 bid, .slice ba K bc, .int .i64 blv, .string bcl, .string bnm, .bool bst, .int .i64 bwt, .int .i64 bds] 44 44)
 simp only at hN hK hu hv hres
 have HR0 := Lib.hid hres
 clear hres
 have hn := hu.len
 have hk := hv.len
 have HU := Lib.hid hu
 have HV := Lib.hid hv
 have HN := Lib.hid hN
 have HK := Lib.hid hK
 have hN2 : (N : Int) ≤ 9223372036854775807 := by omega
 have hK2 : (K : Int) ≤ 9223372036854775807 := by omega
 unfold wv
 simp only
 clear hu hv hN hK hn hk
 go_enter Tryz.func23, Tryz.ntmps23
 go_upto_region 1 with fail
 change Has w _ ((w.alloc (.cells #[.int .i64 aid, .slice aa N ac, .int .i64 alv, .string acl, .string anm, .bool ast, .int .i64 awt, .int .i64 ads] 44)).alloc (.cells #[.int .i64 bid, .slice ba K bc, .int .i64 blv, .string bcl, .string bnm, .bool bst, .int .i64 bwt, .int .i64 bds] 44)) at C0
 generalize (w.alloc (.cells #[.int .i64 aid, .slice aa N ac, .int .i64 alv, .string acl, .string anm, .bool ast, .int .i64 awt, .int .i64 ads] 44)).alloc (.cells #[.int .i64 bid, .slice ba K bc, .int .i64 blv, .string bcl, .string bnm, .bool bst, .int .i64 bwt, .int .i64 bds] 44) = w1 at *
 have k2 := C0.fact (.head _) (i := 2) rfl
 have l2 := C0.tail.fact (.head _) (i := 2) rfl
 by_cases hlv : alv = blv
 ·have z : (alv == blv) = true := by rw [hlv]; simp
  have z2 : decide (alv ≠ blv) = false := by simp [hlv]
  have BB := C0.low
  have HE := Lib.hid (show false = res by have := HR0.out; rw [z2, Bool.false_and] at this; exact this)
  clear hlv z2
  go_wp2_with fail
  go_ret
  exact ⟨by rw [← HE.out]; rfl, BB⟩
 ·have z : (alv == blv) = false := by rw [beq_eq_false_iff_ne]; exact hlv
  have z2 : decide (alv ≠ blv) = true := by simp [hlv]
  have HRES := Lib.hid (show anyTo (ccJ aln bln) (N - 1) = res by have := HR0.out; rw [z2, Bool.true_and, HN.out] at this; exact this)
  clear hlv z2
  go_wp2_with fail
  go_loopw [5] (fun r W => ∃ i : Nat, i ≤ N - 1 ∧ r = .int .i64 i ∧ Has w [(w.heap.size, [.int .i64 aid, .slice aa N ac, .int .i64 alv, .string acl, .string anm, .bool ast, .int .i64 awt, .int .i64 ads]), (w.heap.size + 1, [.int .i64 bid, .slice ba K bc, .int .i64 blv, .string bcl, .string bnm, .bool bst, .int .i64 bwt, .int .i64 bds])] W ∧ Hid (anyTo (ccJ aln bln) i = false)) (fun r _ => N - 1 - (RowKit.intOf r).toNat)
  case atStart => exact ⟨0, Nat.zero_le _, rfl, C0, Lib.hid rfl⟩
  case round =>
   clear C0 k2 l2
   obtain ⟨i, hi, rfl, hC, HI⟩ := hrel
   have k1 := hC.fact (.head _) (i := 1) rfl
   have iw : IntKind.i64.wrap ((i : Int) + 1) = (i : Int) + 1 := by rw [IntKind.wrap_i64]; omega
   by_cases hin : i < N - 1
   ·have b1 : (i : Int) + 1 < N := by omega
    have b2 : (0 : Int) ≤ i := by omega
    have b3 : (i : Int) < N := by omega
    have b4 : (0 : Int) ≤ (i : Int) + 1 := by omega
    have in1 : ((i : Int) + 1).toNat = i + 1 := by omega
    obtain ⟨pb, po, rfl, hp⟩ := HU.out.spot (by rw [HN.out]; omega)
    obtain ⟨⟨x0, y0⟩, hx0⟩ : ∃ p, aln[i]? = some p := ⟨_, List.getElem?_eq_getElem (by rw [HN.out]; omega)⟩
    obtain ⟨⟨x1, y1⟩, hx1⟩ : ∃ p, aln[i + 1]? = some p := ⟨_, List.getElem?_eq_getElem (by rw [HN.out]; omega)⟩
    have HP0 := Lib.hid (hp i _ hx0)
    have HP1 := Lib.hid (hp (i + 1) _ hx1)
    have HX0 := Lib.hid hx0
    have HX1 := Lib.hid hx1
    clear hp hx0 hx1
    go_wp2_with fail
    go_loopw [6] (fun r W => ∃ j : Nat, j ≤ K - 1 ∧ r = .int .i64 j ∧ Has w [(w.heap.size, [.int .i64 aid, .slice (some ⟨pb, po, none⟩) N ac, .int .i64 alv, .string acl, .string anm, .bool ast, .int .i64 awt, .int .i64 ads]), (w.heap.size + 1, [.int .i64 bid, .slice ba K bc, .int .i64 blv, .string bcl, .string bnm, .bool bst, .int .i64 bwt, .int .i64 bds])] W ∧ Hid (anyTo (fun j => decide (0 < rcX aln bln i j)) j = false)) (fun r _ => K - 1 - (RowKit.intOf r).toNat)
    case atStart => exact ⟨0, Nat.zero_le _, rfl, hC, Lib.hid rfl⟩
    case round =>
     clear hC k1
     obtain ⟨j, hj, rfl, hC, HJ⟩ := hrel
     have k1 := hC.fact (.head _) (i := 1) rfl
     have l1 := hC.tail.fact (.head _) (i := 1) rfl
     have jw : IntKind.i64.wrap ((j : Int) + 1) = (j : Int) + 1 := by rw [IntKind.wrap_i64]; omega
     by_cases hjn : j < K - 1
     ·have c1 : (j : Int) + 1 < K := by omega
      have c2 : (0 : Int) ≤ j := by omega
      have c3 : (j : Int) < K := by omega
      have c4 : (0 : Int) ≤ (j : Int) + 1 := by omega
      have jn1 : ((j : Int) + 1).toNat = j + 1 := by omega
      obtain ⟨qb, qo, rfl, hq⟩ := HV.out.spot (by rw [HK.out]; omega)
      obtain ⟨⟨x2, y2⟩, hx2⟩ : ∃ p, bln[j]? = some p := ⟨_, List.getElem?_eq_getElem (by rw [HK.out]; omega)⟩
      obtain ⟨⟨x3, y3⟩, hx3⟩ : ∃ p, bln[j + 1]? = some p := ⟨_, List.getElem?_eq_getElem (by rw [HK.out]; omega)⟩
      have HP2 := Lib.hid (hq j _ hx2)
      have HP3 := Lib.hid (hq (j + 1) _ hx3)
      obtain ⟨mt, hmt⟩ : ∃ mt, meetOf x0 y0 x1 y1 x2 y2 x3 y3 = mt := ⟨_, rfl⟩
      have HMT := Lib.hid hmt
      have HRC := Lib.hid (show rcX aln bln i j = mt by unfold rcX; rw [pt_of HX0.out, pt_of HX1.out, pt_of hx2, pt_of hx3]; exact hmt)
      clear hq hx2 hx3 hmt
      have HS2 := Lib.hid (show ∀ w', Has w [(w.heap.size, [.int .i64 aid, .slice (some ⟨pb, po, none⟩) N ac, .int .i64 alv, .string acl, .string anm, .bool ast, .int .i64 awt, .int .i64 ads]), (w.heap.size + 1, [.int .i64 bid, .slice (some ⟨qb, qo, none⟩) K bc, .int .i64 blv, .string bcl, .string bnm, .bool bst, .int .i64 bwt, .int .i64 bds])] w' → (w'.cell? ⟨w.heap.size, 1, none⟩ = some (.slice (some ⟨pb, po, none⟩) N ac) ∧ w'.cell? ⟨w.heap.size + 1, 1, none⟩ = some (.slice (some ⟨qb, qo, none⟩) K bc) ∧ w'.cell? ⟨pb, po + i * 2, none⟩ = some (.int .i64 x0) ∧ w'.cell? ⟨pb, po + i * 2 + 1, none⟩ = some (.int .i64 y0) ∧ w'.cell? ⟨pb, po + (i + 1) * 2, none⟩ = some (.int .i64 x1) ∧ w'.cell? ⟨pb, po + (i + 1) * 2 + 1, none⟩ = some (.int .i64 y1) ∧ w'.cell? ⟨qb, qo + j * 2, none⟩ = some (.int .i64 x2) ∧ w'.cell? ⟨qb, qo + j * 2 + 1, none⟩ = some (.int .i64 y2) ∧ w'.cell? ⟨qb, qo + (j + 1) * 2, none⟩ = some (.int .i64 x3) ∧ w'.cell? ⟨qb, qo + (j + 1) * 2 + 1, none⟩ = some (.int .i64 y3)) ∧ Has w [(w.heap.size, [.int .i64 aid, .slice (some ⟨pb, po, none⟩) N ac, .int .i64 alv, .string acl, .string anm, .bool ast, .int .i64 awt, .int .i64 ads]), (w.heap.size + 1, [.int .i64 bid, .slice (some ⟨qb, qo, none⟩) K bc, .int .i64 blv, .string bcl, .string bnm, .bool bst, .int .i64 bwt, .int .i64 bds])] w' from fun w' h => ⟨⟨h.fact (.head _) (i := 1) rfl, h.tail.fact (.head _) (i := 1) rfl, (Below.cell h.low (World.block_lt_of_cell? w _ HP0.out.1)).trans HP0.out.1, (Below.cell h.low (World.block_lt_of_cell? w _ HP0.out.2)).trans HP0.out.2, (Below.cell h.low (World.block_lt_of_cell? w _ HP1.out.1)).trans HP1.out.1, (Below.cell h.low (World.block_lt_of_cell? w _ HP1.out.2)).trans HP1.out.2, (Below.cell h.low (World.block_lt_of_cell? w _ HP2.out.1)).trans HP2.out.1, (Below.cell h.low (World.block_lt_of_cell? w _ HP2.out.2)).trans HP2.out.2, (Below.cell h.low (World.block_lt_of_cell? w _ HP3.out.1)).trans HP3.out.1, (Below.cell h.low (World.block_lt_of_cell? w _ HP3.out.2)).trans HP3.out.2⟩, h⟩)
      go_upto_region 9 with fail
      have X0 := hC.drew
      refine wp_region_held_drew (S := (fun w' => (w'.cell? ⟨w.heap.size, 1, none⟩ = some (.slice (some ⟨pb, po, none⟩) N ac) ∧ w'.cell? ⟨w.heap.size + 1, 1, none⟩ = some (.slice (some ⟨qb, qo, none⟩) K bc) ∧ w'.cell? ⟨pb, po + i * 2, none⟩ = some (.int .i64 x0) ∧ w'.cell? ⟨pb, po + i * 2 + 1, none⟩ = some (.int .i64 y0) ∧ w'.cell? ⟨pb, po + (i + 1) * 2, none⟩ = some (.int .i64 x1) ∧ w'.cell? ⟨pb, po + (i + 1) * 2 + 1, none⟩ = some (.int .i64 y1) ∧ w'.cell? ⟨qb, qo + j * 2, none⟩ = some (.int .i64 x2) ∧ w'.cell? ⟨qb, qo + j * 2 + 1, none⟩ = some (.int .i64 y2) ∧ w'.cell? ⟨qb, qo + (j + 1) * 2, none⟩ = some (.int .i64 x3) ∧ w'.cell? ⟨qb, qo + (j + 1) * 2 + 1, none⟩ = some (.int .i64 y3)) ∧ Has w [(w.heap.size, [.int .i64 aid, .slice (some ⟨pb, po, none⟩) N ac, .int .i64 alv, .string acl, .string anm, .bool ast, .int .i64 awt, .int .i64 ads]), (w.heap.size + 1, [.int .i64 bid, .slice (some ⟨qb, qo, none⟩) K bc, .int .i64 blv, .string bcl, .string bnm, .bool bst, .int .i64 bwt, .int .i64 bds])] w')) (by kernel_rfl) (HS2.out _ X0) (fun hHeld => ?_)
      generalize wr.drew = v0 at *
      clear hC k1 l1
      refine tbA [0, 1, 2] ?_
      refine tkA (.pointer (some ⟨w.heap.size, 1, none⟩)) (oi := ⟨some 28, .fieldAddr 44 (.tmp 2) 1, 0, _, _, none⟩) ?_
      simp only [Act.put, pA, pB, pC]
      refine tkA (.slice (some ⟨pb, po, none⟩) N ac) (oi := ⟨some 29, .load 42 (.tmp 28), 42, _, _, none⟩) ?_
      simp only [Act.put, pA, pB, pC]
      refine tkA (.int .i64 i) (oi := ⟨some 30, .move (.tmp 5), 3, _, _, none⟩) ?_
      simp only [Act.put, pA, pB, pC]
      refine teA ?_
      refine tlA #[true, true, true, false, false, false, false, false, false, false, false, false, false, false, false, false, false, false, false, false, false, false, false, false] ?_
      refine tbA [3, 4] ?_
      refine tkA (.pointer (some ⟨pb, po + i * 2, none⟩)) (oi := ⟨some 31, .indexAddr 42 (.tmp 29) (.tmp 30), 0, _, _, none⟩) ?_
      simp only [Act.put, pA, pB, pC]
      refine tkA (.agg #[.int .i64 x0, .int .i64 y0]) (oi := ⟨some 32, .load 37 (.tmp 31), 37, _, _, none⟩) ?_
      simp only [Act.put, pA, pB, pC]
      refine teA ?_
      refine tlA #[true, true, true, true, true, false, false, false, false, false, false, false, false, false, false, false, false, false, false, false, false, false, false, false] ?_
      refine tbA [5, 6, 7] ?_
      refine tkA (.pointer (some ⟨w.heap.size, 1, none⟩)) (oi := ⟨some 33, .fieldAddr 44 (.tmp 2) 1, 0, _, _, none⟩) ?_
      simp only [Act.put, pA, pB, pC]
      refine tkA (.slice (some ⟨pb, po, none⟩) N ac) (oi := ⟨some 34, .load 42 (.tmp 33), 42, _, _, none⟩) ?_
      simp only [Act.put, pA, pB, pC]
      refine tkA (.int .i64 i) (oi := ⟨some 35, .move (.tmp 5), 3, _, _, none⟩) ?_
      simp only [Act.put, pA, pB, pC]
      refine teA ?_
      refine tlA #[true, true, true, true, true, true, true, true, false, false, false, false, false, false, false, false, false, false, false, false, false, false, false, false] ?_
      refine tbA [8, 9, 10] ?_
      refine tkA (.int .i64 ((i : Int) + 1)) (oi := ⟨some 36, .binOp .add 3 (.tmp 35) (.const (.int .i64 1)) 3, 3, _, _, none⟩) ?_
      simp only [Act.put, pA, pB, pC]
      refine tkA (.pointer (some ⟨pb, po + (i + 1) * 2, none⟩)) (oi := ⟨some 37, .indexAddr 42 (.tmp 34) (.tmp 36), 0, _, _, none⟩) ?_
      simp only [Act.put, pA, pB, pC]
      refine tkA (.agg #[.int .i64 x1, .int .i64 y1]) (oi := ⟨some 38, .load 37 (.tmp 37), 37, _, _, none⟩) ?_
      simp only [Act.put, pA, pB, pC]
      refine teA ?_
      refine tlA #[true, true, true, true, true, true, true, true, true, true, true, false, false, false, false, false, false, false, false, false, false, false, false, false] ?_
      refine tbA [11, 12, 13] ?_
      refine tkA (.pointer (some ⟨w.heap.size + 1, 1, none⟩)) (oi := ⟨some 39, .fieldAddr 44 (.tmp 3) 1, 0, _, _, none⟩) ?_
      simp only [Act.put, pA, pB, pC]
      refine tkA (.slice (some ⟨qb, qo, none⟩) K bc) (oi := ⟨some 40, .load 42 (.tmp 39), 42, _, _, none⟩) ?_
      simp only [Act.put, pA, pB, pC]
      refine tkA (.int .i64 j) (oi := ⟨some 41, .move (.tmp 6), 3, _, _, none⟩) ?_
      simp only [Act.put, pA, pB, pC]
      refine teA ?_
      refine tlA #[true, true, true, true, true, true, true, true, true, true, true, true, true, true, false, false, false, false, false, false, false, false, false, false] ?_
      refine tbA [14, 15] ?_
      refine tkA (.pointer (some ⟨qb, qo + j * 2, none⟩)) (oi := ⟨some 42, .indexAddr 42 (.tmp 40) (.tmp 41), 0, _, _, none⟩) ?_
      simp only [Act.put, pA, pB, pC]
      refine tkA (.agg #[.int .i64 x2, .int .i64 y2]) (oi := ⟨some 43, .load 37 (.tmp 42), 37, _, _, none⟩) ?_
      simp only [Act.put, pA, pB, pC]
      refine teA ?_
      refine tlA #[true, true, true, true, true, true, true, true, true, true, true, true, true, true, true, true, false, false, false, false, false, false, false, false] ?_
      refine tbA [16, 17, 18] ?_
      refine tkA (.pointer (some ⟨w.heap.size + 1, 1, none⟩)) (oi := ⟨some 44, .fieldAddr 44 (.tmp 3) 1, 0, _, _, none⟩) ?_
      simp only [Act.put, pA, pB, pC]
      refine tkA (.slice (some ⟨qb, qo, none⟩) K bc) (oi := ⟨some 45, .load 42 (.tmp 44), 42, _, _, none⟩) ?_
      simp only [Act.put, pA, pB, pC]
      refine tkA (.int .i64 j) (oi := ⟨some 46, .move (.tmp 6), 3, _, _, none⟩) ?_
      simp only [Act.put, pA, pB, pC]
      refine teA ?_
      refine tlA #[true, true, true, true, true, true, true, true, true, true, true, true, true, true, true, true, true, true, true, false, false, false, false, false] ?_
      refine tbA [19, 20, 21] ?_
      refine tkA (.int .i64 ((j : Int) + 1)) (oi := ⟨some 47, .binOp .add 3 (.tmp 46) (.const (.int .i64 1)) 3, 3, _, _, none⟩) ?_
      simp only [Act.put, pA, pB, pC]
      refine tkA (.pointer (some ⟨qb, qo + (j + 1) * 2, none⟩)) (oi := ⟨some 48, .indexAddr 42 (.tmp 45) (.tmp 47), 0, _, _, none⟩) ?_
      simp only [Act.put, pA, pB, pC]
      refine tkA (.agg #[.int .i64 x3, .int .i64 y3]) (oi := ⟨some 49, .load 37 (.tmp 48), 37, _, _, none⟩) ?_
      simp only [Act.put, pA, pB, pC]
      refine teA ?_
      refine tlA #[true, true, true, true, true, true, true, true, true, true, true, true, true, true, true, true, true, true, true, true, true, true, false, false] ?_
      refine trA [22] ?_
      refine AllReadyH.cons (o := ⟨some 50, .call { callee := .value (.func 49), args := #[.tmp 32, .tmp 38, .tmp 43, .tmp 49], argTypes := #[37, 37, 37, 37] }, 3, _, _, none⟩) rfl (fun K hK => ?_) AllReadyH.nil
      go_simp
      go_at_call 49
      refine (Has.call X0 (rmeet_is23 _ _ _ _ _ _ _ _ mt HMT.out _)).mono ?_
      rintro e v1 ⟨rfl, X1⟩
      go_wp2_with fail
      clear hHeld
      refine hK.out _ _ (HS2.out _ X1) (fun hHeld => ?_)
      clear hK K
      try simp only [pA, pB, pC]
      refine tlA #[true, true, true, true, true, true, true, true, true, true, true, true, true, true, true, true, true, true, true, true, true, true, true, false] ?_
      clear X0
      refine tbA [23] ?_
      refine tkA (.bool (decide (mt > 0))) (oi := ⟨some 51, .binOp .gtr 3 (.tmp 50) (.const (.int .i64 0)) 3, 4, _, _, none⟩) ?_
      simp only [Act.put, pA, pB, pC]
      refine teA ?_
      refine tlA #[true, true, true, true, true, true, true, true, true, true, true, true, true, true, true, true, true, true, true, true, true, true, true, true] ?_
      refine wpAnyH_done (by kernel_rfl) ?_ _
      clear hHeld HS2
      by_cases hm : 0 < mt
      ·have d1 : mt > 0 := hm
       have HE := Lib.hid (show true = res by
        rw [← HRES.out]
        exact anyTo_yes (k := i) (anyTo_iff.2 ⟨j, by rw [HK.out]; exact hjn, by rw [HRC.out]; exact decide_eq_true hm⟩) hin)
       have BB := X1.low
       go_wp2_with fail
       go_ret
       exact ⟨by rw [← HE.out]; rfl, BB⟩
      ·have d1 : ¬ mt > 0 := hm
       have HJ2 := Lib.hid (show anyTo (fun j => decide (0 < rcX aln bln i j)) (j + 1) = false from anyTo_no HJ.out (by rw [HRC.out]; exact decide_eq_false hm))
       go_wp2_with fail
       go_roundw
       case rel => exact ⟨j + 1, by omega, by go_num, X1, HJ2⟩
       case measure => simp [RowKit.intOf]; omega
     ·have c1 : ¬ (j : Int) + 1 < K := by omega
      have HI2 := Lib.hid (show anyTo (ccJ aln bln) (i + 1) = false from anyTo_no HI.out (by unfold ccJ; rw [HK.out, show K - 1 = j by omega]; exact HJ.out))
      go_wp2_with fail
      go_roundw
      case rel => exact ⟨i + 1, by omega, by go_num, hC, HI2⟩
      case measure => simp [RowKit.intOf]; omega
   ·have b1 : ¬ (i : Int) + 1 < N := by omega
    have HE := Lib.hid (show false = res by rw [← HRES.out, show N - 1 = i by omega]; exact HI.out.symm)
    have BB := hC.low
    go_wp2_with fail
    go_ret
    exact ⟨by rw [← HE.out]; rfl, BB⟩

end Go.Proofs.YtoaldbjcpfkcjaaGreat
