/- Cross. -/
import Derived.Test.YtoaldbjcpfkcjaaGreatcCx
namespace Go.Proofs.YtoaldbjcpfkcjaaGreat
open Go.RowKit Go.Lib

theorem box_is (v : Value) (ps : List (Int × Int)) (e0 e1 e2 e3 : Int) (h : bxo ps = ((e0, e1), (e2, e3))) (w : World) (hv : RowP w v ps) :
  Calls Tryz.prog 46 #[v] w fun e w' => e = .returned (.agg #[.int .i64 e0, .int .i64 e1, .int .i64 e2, .int .i64 e3]) ∧ Below w.heap.size w w' := by
 have := box_any v ps w hv
 rw [h] at this
 exact this
theorem nearo_is (a0 a1 a2 a3 b0 b1 b2 b3 : Int) (r : Bool) (h : nearOf a0 a1 a2 a3 b0 b1 b2 b3 = r) (w : World) :
  Calls Tryz.prog 47 #[.agg #[.int .i64 a0, .int .i64 a1, .int .i64 a2, .int .i64 a3], .agg #[.int .i64 b0, .int .i64 b1, .int .i64 b2, .int .i64 b3]] w fun e w' => e = .returned (.bool r) ∧ Below w.heap.size w w' := h ▸ near_any a0 a1 a2 a3 b0 b1 b2 b3 w
theorem RowP.two {w : World} {b o n c k : Nat} {ps : List (Int × Int)} {x0 y0 x1 y1 : Int} (h : RowP w (.slice (some ⟨b, o, none⟩) n c) ps) (hp : ps[k]? = some (x0, y0)) (hq : ps[k + 1]? = some (x1, y1)) : RowP w (.slice (some ⟨b, o + k * 2, none⟩) 2 (c - k)) [(x0, y0), (x1, y1)] := by
 obtain ⟨h1, h2, h3⟩ := h.len
 have hl := (List.getElem?_eq_some_iff.1 hq).1
 refine ⟨_, _, rfl, by simp; omega, by omega, .inr ⟨b, o + k * 2, rfl, fun i p hi => ?_⟩⟩
 match i, hi with
 | 0, hi => cases hi; have := h.cells hp; simpa using this
 | 1, hi => cases hi; have := h.cells hq; rw [show o + k * 2 + 1 * 2 = o + (k + 1) * 2 by omega]; exact this
 | i + 2, hi => simp at hi
/-- Whether a segment of one way meets the other one. -/
def crK (l m : List (Int × Int)) (i : Nat) : Bool :=
 nearOf (bxo [pt l i, pt l (i + 1)]).1.1 (bxo [pt l i, pt l (i + 1)]).1.2 (bxo [pt l i, pt l (i + 1)]).2.1 (bxo [pt l i, pt l (i + 1)]).2.2 (bxo m).1.1 (bxo m).1.2 (bxo m).2.1 (bxo m).2.2 && meetsP (pt l i).1 (pt l i).2 (pt l (i + 1)).1 (pt l (i + 1)).2 m
def crossW (x y : Wy) : Bool := decide (x.lv ≠ y.lv) && anyTo (crK x.ln y.ln) (x.ln.length - 1)
set_option maxRecDepth 100000 in
set_option maxHeartbeats 4000000 in
theorem crossw_any (x y : Wy) (u v : Value) (w : World) (hu : RowP w u x.ln) (hv : RowP w v y.ln) :
  Calls Tryz.prog 22 #[wv x u, wv y v] w fun e w' => e = .returned (.bool (crossW x y)) ∧ Below w.heap.size w w' := by
 obtain ⟨aid, aln, alv, acl, anm, ast, awt, ads⟩ := x
 obtain ⟨bid, bln, blv, bcl, bnm, bst, bwt, bds⟩ := y
 obtain ⟨aa, an, ac, rfl, han, hu⟩ := hu.form
 obtain ⟨ba, bn, bc, rfl, hbn, hv⟩ := hv.form
 obtain ⟨-, hc1, hc2⟩ := hu.len
 simp only at hu hv han hbn hc1
 rw [han] at hc1
 have HA := Lib.hid hu
 have HB := Lib.hid hv
 have HN := Lib.hid han
 clear hu hv han hbn
 unfold wv
 simp only
 by_cases hl : alv = blv
 ·have z1 : (alv == blv) = true := by simpa using hl
  have HR := Lib.hid (show crossW ⟨aid, aln, alv, acl, anm, ast, awt, ads⟩ ⟨bid, bln, blv, bcl, bnm, bst, bwt, bds⟩ = false from by unfold crossW; simp [hl])
  rw [HR.out]
  clear hl
  have C0 := ((Has.nil (Below.refl w.heap.size w)).push [.int .i64 aid, .slice aa an ac, .int .i64 alv, .string acl, .string anm, .bool ast, .int .i64 awt, .int .i64 ads] 44).push [.int .i64 bid, .slice ba bn bc, .int .i64 blv, .string bcl, .string bnm, .bool bst, .int .i64 bwt, .int .i64 bds] 44
  simp only [size_alloc] at C0
  go_enter Tryz.func22, Tryz.ntmps22
  go_upto_region 1 with fail
  change Has w [(w.heap.size + 1, [.int .i64 bid, .slice ba bn bc, .int .i64 blv, .string bcl, .string bnm, .bool bst, .int .i64 bwt, .int .i64 bds]), (w.heap.size, [.int .i64 aid, .slice aa an ac, .int .i64 alv, .string acl, .string anm, .bool ast, .int .i64 awt, .int .i64 ads])] ((w.alloc (.cells #[.int .i64 aid, .slice aa an ac, .int .i64 alv, .string acl, .string anm, .bool ast, .int .i64 awt, .int .i64 ads] 44)).alloc (.cells #[.int .i64 bid, .slice ba bn bc, .int .i64 blv, .string bcl, .string bnm, .bool bst, .int .i64 bwt, .int .i64 bds] 44)) at C0
  generalize ((w.alloc (.cells #[.int .i64 aid, .slice aa an ac, .int .i64 alv, .string acl, .string anm, .bool ast, .int .i64 awt, .int .i64 ads] 44)).alloc (.cells #[.int .i64 bid, .slice ba bn bc, .int .i64 blv, .string bcl, .string bnm, .bool bst, .int .i64 bwt, .int .i64 bds] 44)) = w0 at *
  have k2 := C0.tail.fact (.head _) (i := 2) rfl
  have l2 := C0.fact (.head _) (i := 2) rfl
  have l1 := C0.fact (.head _) (i := 1) rfl
  have HC := Lib.hid C0
  clear C0
  go_wp2_with fail
  go_ret
  exact ⟨rfl, HC.out.low⟩
 ·have z1 : (alv == blv) = false := by simpa using hl
  obtain ⟨r, hr⟩ : ∃ r, anyTo (crK aln bln) (aln.length - 1) = r := ⟨_, rfl⟩
  rw [show crossW ⟨aid, aln, alv, acl, anm, ast, awt, ads⟩ ⟨bid, bln, blv, bcl, bnm, bst, bwt, bds⟩ = r from by unfold crossW; simp [hl, hr]]
  have HR := Lib.hid hr
  obtain ⟨⟨⟨e0, e1⟩, ⟨e2, e3⟩⟩, he⟩ : ∃ e, bxo bln = e := ⟨_, rfl⟩
  have HE := Lib.hid he
  have hw1 : IntKind.i64.wrap ((an : Int) - 1) = (an : Int) - 1 := IntWalk.i64_in _ (by omega)
  clear hl hr he
  have C0 := ((Has.nil (Below.refl w.heap.size w)).push [.int .i64 aid, .slice aa an ac, .int .i64 alv, .string acl, .string anm, .bool ast, .int .i64 awt, .int .i64 ads] 44).push [.int .i64 bid, .slice ba bn bc, .int .i64 blv, .string bcl, .string bnm, .bool bst, .int .i64 bwt, .int .i64 bds] 44
  simp only [size_alloc] at C0
  go_enter Tryz.func22, Tryz.ntmps22
  go_upto_region 1 with fail
  change Has w [(w.heap.size + 1, [.int .i64 bid, .slice ba bn bc, .int .i64 blv, .string bcl, .string bnm, .bool bst, .int .i64 bwt, .int .i64 bds]), (w.heap.size, [.int .i64 aid, .slice aa an ac, .int .i64 alv, .string acl, .string anm, .bool ast, .int .i64 awt, .int .i64 ads])] ((w.alloc (.cells #[.int .i64 aid, .slice aa an ac, .int .i64 alv, .string acl, .string anm, .bool ast, .int .i64 awt, .int .i64 ads] 44)).alloc (.cells #[.int .i64 bid, .slice ba bn bc, .int .i64 blv, .string bcl, .string bnm, .bool bst, .int .i64 bwt, .int .i64 bds] 44)) at C0
  generalize ((w.alloc (.cells #[.int .i64 aid, .slice aa an ac, .int .i64 alv, .string acl, .string anm, .bool ast, .int .i64 awt, .int .i64 ads] 44)).alloc (.cells #[.int .i64 bid, .slice ba bn bc, .int .i64 blv, .string bcl, .string bnm, .bool bst, .int .i64 bwt, .int .i64 bds] 44)) = w0 at *
  have k2 := C0.tail.fact (.head _) (i := 2) rfl
  have l2 := C0.fact (.head _) (i := 2) rfl
  have l1 := C0.fact (.head _) (i := 1) rfl
  have HX := Lib.hid (box_is _ bln e0 e1 e2 e3 HE.out w0 (HB.out.later C0.low))
  go_wp2_with fail
  refine HX.out.mono ?_
  rintro e w1 ⟨rfl, g1⟩
  have C1 := C0.later g1
  clear k2 l2 l1 C0 HX g1
  have C2 := C1.push [.int .i64 e0, .int .i64 e1, .int .i64 e2, .int .i64 e3] 81
  go_upto_region 4 with fail
  change Has w _ (w1.alloc (.cells #[.int .i64 e0, .int .i64 e1, .int .i64 e2, .int .i64 e3] 81)) at C2
  generalize w1.alloc (.cells #[.int .i64 e0, .int .i64 e1, .int .i64 e2, .int .i64 e3] 81) = w2 at *
  generalize w1.heap.size = E at *
  clear C1
  have k1 := C2.tail.tail.fact (.head _) (i := 1) rfl
  have HC2 := Lib.hid C2
  clear C2
  go_wp2_with fail
  clear k1 hw1
  go_loopw [20] (fun i wr => ∃ k : Nat, k ≤ an ∧ i = .int .i64 k ∧ Hid (anyTo (crK aln bln) k = false ∧ k ≤ aln.length - 1 ∧ Has w [(E, [.int .i64 e0, .int .i64 e1, .int .i64 e2, .int .i64 e3]), (w.heap.size + 1, [.int .i64 bid, .slice ba bn bc, .int .i64 blv, .string bcl, .string bnm, .bool bst, .int .i64 bwt, .int .i64 bds]), (w.heap.size, [.int .i64 aid, .slice aa an ac, .int .i64 alv, .string acl, .string anm, .bool ast, .int .i64 awt, .int .i64 ads])] wr)) (fun i _ => an - (RowKit.intOf i).toNat)
  case atStart => exact ⟨0, Nat.zero_le _, rfl, Lib.hid ⟨rfl, Nat.zero_le _, HC2.out⟩⟩
  case round =>
   obtain ⟨k, hk, rfl, HI⟩ := hrel
   by_cases hlt : k + 1 < an
   ·have b1' : (k : Int) < (an : Int) - 1 := by omega
    have b2 : (0 : Int) ≤ k := by omega
    have b4 : (k : Int) + 2 ≤ an := by omega
    have b5 : (0 : Int) ≤ (k : Int) + 2 := by omega
    have b6 : IntKind.i64.wrap ((k : Int) + 2) = (k : Int) + 2 := IntWalk.i64_in _ (by omega)
    have b7 : ((k : Int) + 2).toNat = k + 2 := by omega
    have b8 : ¬ ac = k := by omega
    have b9 : (k : Int) + 2 ≤ ac := by omega
    obtain ⟨q, o, rfl, -⟩ := HA.out.spot (by rw [HN.out]; omega)
    obtain ⟨x0, y0, hp⟩ := some_pt (ps := aln) (k := k) (by rw [HN.out]; omega)
    obtain ⟨x1, y1, hq⟩ := some_pt (ps := aln) (k := k + 1) (by rw [HN.out]; omega)
    have HP := Lib.hid hp
    have HQ := Lib.hid hq
    obtain ⟨⟨⟨d0, d1⟩, ⟨d2, d3⟩⟩, hd⟩ : ∃ e, bxo [(x0, y0), (x1, y1)] = e := ⟨_, rfl⟩
    have HD := Lib.hid hd
    obtain ⟨m, hm⟩ : ∃ m, meetsP x0 y0 x1 y1 bln = m := ⟨_, rfl⟩
    have HM := Lib.hid hm
    have hS : crK aln bln k = (nearOf d0 d1 d2 d3 e0 e1 e2 e3 && m) := by unfold crK; rw [pt_of hp, pt_of hq, hd, HE.out, ← hm]
    have C3 := HI.out.2.2
    have k1 := C3.tail.tail.fact (.head _) (i := 1) rfl
    clear hp hq hd hm
    go_upto_region 8 with fail
    clear k1
    cases hnr : nearOf d0 d1 d2 d3 e0 e1 e2 e3
    ·rw [hnr, Bool.false_and] at hS
     replace hS := Lib.hid hS
     have HNR := Lib.hid hnr
     clear hnr
     have HSD := Lib.hid (show ∀ w', Has w [(E, [.int .i64 e0, .int .i64 e1, .int .i64 e2, .int .i64 e3]), (w.heap.size + 1, [.int .i64 bid, .slice ba bn bc, .int .i64 blv, .string bcl, .string bnm, .bool bst, .int .i64 bwt, .int .i64 bds]), (w.heap.size, [.int .i64 aid, .slice (some ⟨q, o, none⟩) an ac, .int .i64 alv, .string acl, .string anm, .bool ast, .int .i64 awt, .int .i64 ads])] w' → (w'.cell? ⟨E, 0, none⟩ = some (.int .i64 e0) ∧ w'.cell? ⟨E, 1, none⟩ = some (.int .i64 e1) ∧ w'.cell? ⟨E, 2, none⟩ = some (.int .i64 e2) ∧ w'.cell? ⟨E, 3, none⟩ = some (.int .i64 e3) ∧ w'.cell? ⟨w.heap.size + 1, 0, none⟩ = some (.int .i64 bid) ∧ w'.cell? ⟨w.heap.size + 1, 1, none⟩ = some (.slice ba bn bc) ∧ w'.cell? ⟨w.heap.size + 1, 2, none⟩ = some (.int .i64 blv) ∧ w'.cell? ⟨w.heap.size + 1, 3, none⟩ = some (.string bcl) ∧ w'.cell? ⟨w.heap.size + 1, 4, none⟩ = some (.string bnm) ∧ w'.cell? ⟨w.heap.size + 1, 5, none⟩ = some (.bool bst) ∧ w'.cell? ⟨w.heap.size + 1, 6, none⟩ = some (.int .i64 bwt) ∧ w'.cell? ⟨w.heap.size + 1, 7, none⟩ = some (.int .i64 bds) ∧ w'.cell? ⟨w.heap.size, 0, none⟩ = some (.int .i64 aid) ∧ w'.cell? ⟨w.heap.size, 1, none⟩ = some (.slice (some ⟨q, o, none⟩) an ac) ∧ w'.cell? ⟨w.heap.size, 2, none⟩ = some (.int .i64 alv) ∧ w'.cell? ⟨w.heap.size, 3, none⟩ = some (.string acl) ∧ w'.cell? ⟨w.heap.size, 4, none⟩ = some (.string anm) ∧ w'.cell? ⟨w.heap.size, 5, none⟩ = some (.bool ast) ∧ w'.cell? ⟨w.heap.size, 6, none⟩ = some (.int .i64 awt) ∧ w'.cell? ⟨w.heap.size, 7, none⟩ = some (.int .i64 ads) ∧ w'.cell? ⟨q, o + k * 2, none⟩ = some (.int .i64 x0) ∧ w'.cell? ⟨q, o + k * 2 + 1, none⟩ = some (.int .i64 y0) ∧ w'.cell? ⟨q, o + k * 2 + 2, none⟩ = some (.int .i64 x1) ∧ w'.cell? ⟨q, o + k * 2 + 2 + 1, none⟩ = some (.int .i64 y1)) ∧ Has w [(E, [.int .i64 e0, .int .i64 e1, .int .i64 e2, .int .i64 e3]), (w.heap.size + 1, [.int .i64 bid, .slice ba bn bc, .int .i64 blv, .string bcl, .string bnm, .bool bst, .int .i64 bwt, .int .i64 bds]), (w.heap.size, [.int .i64 aid, .slice (some ⟨q, o, none⟩) an ac, .int .i64 alv, .string acl, .string anm, .bool ast, .int .i64 awt, .int .i64 ads])] w' from fun w' h => by
      have hR := HA.out.later h.low
      exact ⟨⟨h.fact (.head _) (i := 0) rfl, h.fact (.head _) (i := 1) rfl, h.fact (.head _) (i := 2) rfl, h.fact (.head _) (i := 3) rfl, h.tail.fact (.head _) (i := 0) rfl, h.tail.fact (.head _) (i := 1) rfl, h.tail.fact (.head _) (i := 2) rfl, h.tail.fact (.head _) (i := 3) rfl, h.tail.fact (.head _) (i := 4) rfl, h.tail.fact (.head _) (i := 5) rfl, h.tail.fact (.head _) (i := 6) rfl, h.tail.fact (.head _) (i := 7) rfl, h.tail.tail.fact (.head _) (i := 0) rfl, h.tail.tail.fact (.head _) (i := 1) rfl, h.tail.tail.fact (.head _) (i := 2) rfl, h.tail.tail.fact (.head _) (i := 3) rfl, h.tail.tail.fact (.head _) (i := 4) rfl, h.tail.tail.fact (.head _) (i := 5) rfl, h.tail.tail.fact (.head _) (i := 6) rfl, h.tail.tail.fact (.head _) (i := 7) rfl, (hR.cells HP.out).1, (hR.cells HP.out).2, (by have := (hR.cells HQ.out).1; rw [show o + k * 2 + 2 = o + (k + 1) * 2 by omega]; exact this), (by have := (hR.cells HQ.out).2; rw [show o + k * 2 + 2 = o + (k + 1) * 2 by omega]; exact this)⟩, h⟩)
     have CD0 := C3.drew
     refine wp_region_held_drew (S := (fun w' => (w'.cell? ⟨E, 0, none⟩ = some (.int .i64 e0) ∧ w'.cell? ⟨E, 1, none⟩ = some (.int .i64 e1) ∧ w'.cell? ⟨E, 2, none⟩ = some (.int .i64 e2) ∧ w'.cell? ⟨E, 3, none⟩ = some (.int .i64 e3) ∧ w'.cell? ⟨w.heap.size + 1, 0, none⟩ = some (.int .i64 bid) ∧ w'.cell? ⟨w.heap.size + 1, 1, none⟩ = some (.slice ba bn bc) ∧ w'.cell? ⟨w.heap.size + 1, 2, none⟩ = some (.int .i64 blv) ∧ w'.cell? ⟨w.heap.size + 1, 3, none⟩ = some (.string bcl) ∧ w'.cell? ⟨w.heap.size + 1, 4, none⟩ = some (.string bnm) ∧ w'.cell? ⟨w.heap.size + 1, 5, none⟩ = some (.bool bst) ∧ w'.cell? ⟨w.heap.size + 1, 6, none⟩ = some (.int .i64 bwt) ∧ w'.cell? ⟨w.heap.size + 1, 7, none⟩ = some (.int .i64 bds) ∧ w'.cell? ⟨w.heap.size, 0, none⟩ = some (.int .i64 aid) ∧ w'.cell? ⟨w.heap.size, 1, none⟩ = some (.slice (some ⟨q, o, none⟩) an ac) ∧ w'.cell? ⟨w.heap.size, 2, none⟩ = some (.int .i64 alv) ∧ w'.cell? ⟨w.heap.size, 3, none⟩ = some (.string acl) ∧ w'.cell? ⟨w.heap.size, 4, none⟩ = some (.string anm) ∧ w'.cell? ⟨w.heap.size, 5, none⟩ = some (.bool ast) ∧ w'.cell? ⟨w.heap.size, 6, none⟩ = some (.int .i64 awt) ∧ w'.cell? ⟨w.heap.size, 7, none⟩ = some (.int .i64 ads) ∧ w'.cell? ⟨q, o + k * 2, none⟩ = some (.int .i64 x0) ∧ w'.cell? ⟨q, o + k * 2 + 1, none⟩ = some (.int .i64 y0) ∧ w'.cell? ⟨q, o + k * 2 + 2, none⟩ = some (.int .i64 x1) ∧ w'.cell? ⟨q, o + k * 2 + 2 + 1, none⟩ = some (.int .i64 y1)) ∧ Has w [(E, [.int .i64 e0, .int .i64 e1, .int .i64 e2, .int .i64 e3]), (w.heap.size + 1, [.int .i64 bid, .slice ba bn bc, .int .i64 blv, .string bcl, .string bnm, .bool bst, .int .i64 bwt, .int .i64 bds]), (w.heap.size, [.int .i64 aid, .slice (some ⟨q, o, none⟩) an ac, .int .i64 alv, .string acl, .string anm, .bool ast, .int .i64 awt, .int .i64 ads])] w')) (by kernel_rfl) (HSD.out _ (CD0)) (fun hHeld => ?_)
     clear C3
     generalize wr.drew = WD0 at *
     refine tbA [0, 2] ?_
     refine tkA (.slice (some ⟨q, o + k * 2, none⟩) 2 (ac - k)) (oi := ⟨some 29, .move (.tmp 7), 42, _, _, none⟩) ?_
     simp only [Act.put, pA, pB, pC]
     refine tkA (.agg #[.int .i64 e0, .int .i64 e1, .int .i64 e2, .int .i64 e3]) (oi := ⟨some 31, .load 81 (.tmp 5), 81, _, _, none⟩) ?_
     simp only [Act.put, pA, pB, pC]
     refine teA ?_
     refine tlA #[true, false, true, false, false, false, false, false, false, false, false, false, false, false, false] ?_
     refine trA [1] ?_
     refine AllReadyH.cons (o := ⟨some 30, .call { callee := .value (.func 46), args := #[.tmp 29], argTypes := #[42] }, 81, _, _, none⟩) rfl (fun K hK => ?_) AllReadyH.nil
     go_simp
     go_at_call 46
     refine (Has.call CD0 (box_is _ _ d0 d1 d2 d3 HD.out _ ((HA.out.later CD0.low).two HP.out HQ.out))).mono ?_
     rintro e WD1 ⟨rfl, CD1⟩
     go_wp2_with fail
     clear hHeld
     refine hK.out _ _ (HSD.out _ (CD1)) (fun hHeld => ?_)
     clear hK K
     try simp only [pA, pB, pC]
     refine tlA #[true, true, true, false, false, false, false, false, false, false, false, false, false, false, false] ?_
     clear CD0
     refine trA [3] ?_
     refine AllReadyH.cons (o := ⟨some 32, .call { callee := .value (.func 47), args := #[.tmp 30, .tmp 31], argTypes := #[81, 81] }, 4, _, _, none⟩) rfl (fun K hK => ?_) AllReadyH.nil
     go_simp
     go_at_call 47
     refine (Has.call CD1 (nearo_is d0 d1 d2 d3 e0 e1 e2 e3 _ HNR.out _)).mono ?_
     rintro e WD2 ⟨rfl, CD2⟩
     go_wp2_with fail
     clear hHeld
     refine hK.out _ _ (HSD.out _ (CD2)) (fun hHeld => ?_)
     clear hK K
     try simp only [pA, pB, pC]
     refine tlA #[true, true, true, true, false, false, false, false, false, false, false, false, false, false, false] ?_
     clear CD1
     refine tbA [4] ?_
     refine tkA (.bool false) (oi := ⟨some 33, .move (.tmp 32), 4, _, _, none⟩) ?_
     simp only [Act.put, pA, pB, pC]
     refine teA ?_
     refine tlA #[true, true, true, true, true, false, false, false, false, false, false, false, false, false, false] ?_
     refine tbA [5, 6, 7, 8, 9, 10] ?_
     refine wpAnyT_skip (oi := ⟨some 34, .move (.tmp 7), 42, _, _, some (4, true)⟩) rfl (fun _ _ _ h => h) (by rfl) (by assumption) ?_
     simp only [Act.put, pA, pB, pC]
     refine wpAnyT_skip (oi := ⟨some 35, .indexAddr 42 (.tmp 34) (.const (.int .i64 0)), 0, _, _, some (4, true)⟩) rfl (fun _ _ _ h => h) (by rfl) (by assumption) ?_
     simp only [Act.put, pA, pB, pC]
     refine wpAnyT_skip (oi := ⟨some 36, .load 37 (.tmp 35), 37, _, _, some (4, true)⟩) rfl (fun _ _ _ h => h) (by rfl) (by assumption) ?_
     simp only [Act.put, pA, pB, pC]
     refine wpAnyT_skip (oi := ⟨some 37, .move (.tmp 7), 42, _, _, some (4, true)⟩) rfl (fun _ _ _ h => h) (by rfl) (by assumption) ?_
     simp only [Act.put, pA, pB, pC]
     refine wpAnyT_skip (oi := ⟨some 38, .indexAddr 42 (.tmp 37) (.const (.int .i64 1)), 0, _, _, some (4, true)⟩) rfl (fun _ _ _ h => h) (by rfl) (by assumption) ?_
     simp only [Act.put, pA, pB, pC]
     refine wpAnyT_skip (oi := ⟨some 39, .load 37 (.tmp 38), 37, _, _, some (4, true)⟩) rfl (fun _ _ _ h => h) (by rfl) (by assumption) ?_
     simp only [Act.put, pA, pB, pC]
     refine teA ?_
     refine tlA #[true, true, true, true, true, true, true, true, true, true, true, false, false, false, false] ?_
     refine tbA [11, 12, 13] ?_
     refine wpAnyT_skip (oi := ⟨some 40, .fieldAddr 44 (.tmp 3) 1, 0, _, _, some (4, true)⟩) rfl (fun _ _ _ h => h) (by rfl) (by assumption) ?_
     simp only [Act.put, pA, pB, pC]
     refine wpAnyT_skip (oi := ⟨some 41, .load 42 (.tmp 40), 42, _, _, some (4, true)⟩) rfl (fun _ _ _ h => h) (by rfl) (by assumption) ?_
     simp only [Act.put, pA, pB, pC]
     refine wpAnyT_skip (oi := ⟨some 42, .call { callee := .value (.func 48), args := #[.tmp 36, .tmp 39, .tmp 41], argTypes := #[37, 37, 42] }, 4, _, _, some (4, true)⟩) rfl (fun _ _ _ h => h) (by rfl) (by assumption) ?_
     simp only [Act.put, pA, pB, pC]
     refine teA ?_
     refine tlA #[true, true, true, true, true, true, true, true, true, true, true, true, true, true, false] ?_
     refine tbA [14] ?_
     refine tkA (.bool false) (oi := ⟨some 43, .pick (.tmp 33) (.tmp 42) (.const (.bool false)), 4, _, _, none⟩) ?_
     simp only [Act.put, pA, pB, pC]
     refine teA ?_
     refine tlA #[true, true, true, true, true, true, true, true, true, true, true, true, true, true, true] ?_
     refine wpAnyH_done (by kernel_rfl) ?_ _
     clear hHeld
     clear HSD
     have HS := Lib.hid (show anyTo (crK aln bln) (k + 1) = false ∧ k + 1 ≤ aln.length - 1 ∧ Has w [(E, [.int .i64 e0, .int .i64 e1, .int .i64 e2, .int .i64 e3]), (w.heap.size + 1, [.int .i64 bid, .slice ba bn bc, .int .i64 blv, .string bcl, .string bnm, .bool bst, .int .i64 bwt, .int .i64 bds]), (w.heap.size, [.int .i64 aid, .slice (some ⟨q, o, none⟩) an ac, .int .i64 alv, .string acl, .string anm, .bool ast, .int .i64 awt, .int .i64 ads])] WD2 from ⟨anyTo_no HI.out.1 (hS.out), by rw [HN.out]; omega, CD2⟩)
     clear CD2 b6 b7 b8
     go_wp2_with fail
     go_roundw
     case rel => exact ⟨k + 1, by omega, by go_num, HS⟩
     case measure => simp [RowKit.intOf]; omega
    ·rw [hnr, Bool.true_and] at hS
     have HNR := Lib.hid hnr
     clear hnr
     cases m
     ·replace hS := Lib.hid hS
      have HSD := Lib.hid (show ∀ w', Has w [(E, [.int .i64 e0, .int .i64 e1, .int .i64 e2, .int .i64 e3]), (w.heap.size + 1, [.int .i64 bid, .slice ba bn bc, .int .i64 blv, .string bcl, .string bnm, .bool bst, .int .i64 bwt, .int .i64 bds]), (w.heap.size, [.int .i64 aid, .slice (some ⟨q, o, none⟩) an ac, .int .i64 alv, .string acl, .string anm, .bool ast, .int .i64 awt, .int .i64 ads])] w' → (w'.cell? ⟨E, 0, none⟩ = some (.int .i64 e0) ∧ w'.cell? ⟨E, 1, none⟩ = some (.int .i64 e1) ∧ w'.cell? ⟨E, 2, none⟩ = some (.int .i64 e2) ∧ w'.cell? ⟨E, 3, none⟩ = some (.int .i64 e3) ∧ w'.cell? ⟨w.heap.size + 1, 0, none⟩ = some (.int .i64 bid) ∧ w'.cell? ⟨w.heap.size + 1, 1, none⟩ = some (.slice ba bn bc) ∧ w'.cell? ⟨w.heap.size + 1, 2, none⟩ = some (.int .i64 blv) ∧ w'.cell? ⟨w.heap.size + 1, 3, none⟩ = some (.string bcl) ∧ w'.cell? ⟨w.heap.size + 1, 4, none⟩ = some (.string bnm) ∧ w'.cell? ⟨w.heap.size + 1, 5, none⟩ = some (.bool bst) ∧ w'.cell? ⟨w.heap.size + 1, 6, none⟩ = some (.int .i64 bwt) ∧ w'.cell? ⟨w.heap.size + 1, 7, none⟩ = some (.int .i64 bds) ∧ w'.cell? ⟨w.heap.size, 0, none⟩ = some (.int .i64 aid) ∧ w'.cell? ⟨w.heap.size, 1, none⟩ = some (.slice (some ⟨q, o, none⟩) an ac) ∧ w'.cell? ⟨w.heap.size, 2, none⟩ = some (.int .i64 alv) ∧ w'.cell? ⟨w.heap.size, 3, none⟩ = some (.string acl) ∧ w'.cell? ⟨w.heap.size, 4, none⟩ = some (.string anm) ∧ w'.cell? ⟨w.heap.size, 5, none⟩ = some (.bool ast) ∧ w'.cell? ⟨w.heap.size, 6, none⟩ = some (.int .i64 awt) ∧ w'.cell? ⟨w.heap.size, 7, none⟩ = some (.int .i64 ads) ∧ w'.cell? ⟨q, o + k * 2, none⟩ = some (.int .i64 x0) ∧ w'.cell? ⟨q, o + k * 2 + 1, none⟩ = some (.int .i64 y0) ∧ w'.cell? ⟨q, o + k * 2 + 2, none⟩ = some (.int .i64 x1) ∧ w'.cell? ⟨q, o + k * 2 + 2 + 1, none⟩ = some (.int .i64 y1)) ∧ Has w [(E, [.int .i64 e0, .int .i64 e1, .int .i64 e2, .int .i64 e3]), (w.heap.size + 1, [.int .i64 bid, .slice ba bn bc, .int .i64 blv, .string bcl, .string bnm, .bool bst, .int .i64 bwt, .int .i64 bds]), (w.heap.size, [.int .i64 aid, .slice (some ⟨q, o, none⟩) an ac, .int .i64 alv, .string acl, .string anm, .bool ast, .int .i64 awt, .int .i64 ads])] w' from fun w' h => by
       have hR := HA.out.later h.low
       exact ⟨⟨h.fact (.head _) (i := 0) rfl, h.fact (.head _) (i := 1) rfl, h.fact (.head _) (i := 2) rfl, h.fact (.head _) (i := 3) rfl, h.tail.fact (.head _) (i := 0) rfl, h.tail.fact (.head _) (i := 1) rfl, h.tail.fact (.head _) (i := 2) rfl, h.tail.fact (.head _) (i := 3) rfl, h.tail.fact (.head _) (i := 4) rfl, h.tail.fact (.head _) (i := 5) rfl, h.tail.fact (.head _) (i := 6) rfl, h.tail.fact (.head _) (i := 7) rfl, h.tail.tail.fact (.head _) (i := 0) rfl, h.tail.tail.fact (.head _) (i := 1) rfl, h.tail.tail.fact (.head _) (i := 2) rfl, h.tail.tail.fact (.head _) (i := 3) rfl, h.tail.tail.fact (.head _) (i := 4) rfl, h.tail.tail.fact (.head _) (i := 5) rfl, h.tail.tail.fact (.head _) (i := 6) rfl, h.tail.tail.fact (.head _) (i := 7) rfl, (hR.cells HP.out).1, (hR.cells HP.out).2, (by have := (hR.cells HQ.out).1; rw [show o + k * 2 + 2 = o + (k + 1) * 2 by omega]; exact this), (by have := (hR.cells HQ.out).2; rw [show o + k * 2 + 2 = o + (k + 1) * 2 by omega]; exact this)⟩, h⟩)
      have CD0 := C3.drew
      refine wp_region_held_drew (S := (fun w' => (w'.cell? ⟨E, 0, none⟩ = some (.int .i64 e0) ∧ w'.cell? ⟨E, 1, none⟩ = some (.int .i64 e1) ∧ w'.cell? ⟨E, 2, none⟩ = some (.int .i64 e2) ∧ w'.cell? ⟨E, 3, none⟩ = some (.int .i64 e3) ∧ w'.cell? ⟨w.heap.size + 1, 0, none⟩ = some (.int .i64 bid) ∧ w'.cell? ⟨w.heap.size + 1, 1, none⟩ = some (.slice ba bn bc) ∧ w'.cell? ⟨w.heap.size + 1, 2, none⟩ = some (.int .i64 blv) ∧ w'.cell? ⟨w.heap.size + 1, 3, none⟩ = some (.string bcl) ∧ w'.cell? ⟨w.heap.size + 1, 4, none⟩ = some (.string bnm) ∧ w'.cell? ⟨w.heap.size + 1, 5, none⟩ = some (.bool bst) ∧ w'.cell? ⟨w.heap.size + 1, 6, none⟩ = some (.int .i64 bwt) ∧ w'.cell? ⟨w.heap.size + 1, 7, none⟩ = some (.int .i64 bds) ∧ w'.cell? ⟨w.heap.size, 0, none⟩ = some (.int .i64 aid) ∧ w'.cell? ⟨w.heap.size, 1, none⟩ = some (.slice (some ⟨q, o, none⟩) an ac) ∧ w'.cell? ⟨w.heap.size, 2, none⟩ = some (.int .i64 alv) ∧ w'.cell? ⟨w.heap.size, 3, none⟩ = some (.string acl) ∧ w'.cell? ⟨w.heap.size, 4, none⟩ = some (.string anm) ∧ w'.cell? ⟨w.heap.size, 5, none⟩ = some (.bool ast) ∧ w'.cell? ⟨w.heap.size, 6, none⟩ = some (.int .i64 awt) ∧ w'.cell? ⟨w.heap.size, 7, none⟩ = some (.int .i64 ads) ∧ w'.cell? ⟨q, o + k * 2, none⟩ = some (.int .i64 x0) ∧ w'.cell? ⟨q, o + k * 2 + 1, none⟩ = some (.int .i64 y0) ∧ w'.cell? ⟨q, o + k * 2 + 2, none⟩ = some (.int .i64 x1) ∧ w'.cell? ⟨q, o + k * 2 + 2 + 1, none⟩ = some (.int .i64 y1)) ∧ Has w [(E, [.int .i64 e0, .int .i64 e1, .int .i64 e2, .int .i64 e3]), (w.heap.size + 1, [.int .i64 bid, .slice ba bn bc, .int .i64 blv, .string bcl, .string bnm, .bool bst, .int .i64 bwt, .int .i64 bds]), (w.heap.size, [.int .i64 aid, .slice (some ⟨q, o, none⟩) an ac, .int .i64 alv, .string acl, .string anm, .bool ast, .int .i64 awt, .int .i64 ads])] w')) (by kernel_rfl) (HSD.out _ (CD0)) (fun hHeld => ?_)
      clear C3
      generalize wr.drew = WD0 at *
      refine tbA [0, 2] ?_
      refine tkA (.slice (some ⟨q, o + k * 2, none⟩) 2 (ac - k)) (oi := ⟨some 29, .move (.tmp 7), 42, _, _, none⟩) ?_
      simp only [Act.put, pA, pB, pC]
      refine tkA (.agg #[.int .i64 e0, .int .i64 e1, .int .i64 e2, .int .i64 e3]) (oi := ⟨some 31, .load 81 (.tmp 5), 81, _, _, none⟩) ?_
      simp only [Act.put, pA, pB, pC]
      refine teA ?_
      refine tlA #[true, false, true, false, false, false, false, false, false, false, false, false, false, false, false] ?_
      refine trA [1] ?_
      refine AllReadyH.cons (o := ⟨some 30, .call { callee := .value (.func 46), args := #[.tmp 29], argTypes := #[42] }, 81, _, _, none⟩) rfl (fun K hK => ?_) AllReadyH.nil
      go_simp
      go_at_call 46
      refine (Has.call CD0 (box_is _ _ d0 d1 d2 d3 HD.out _ ((HA.out.later CD0.low).two HP.out HQ.out))).mono ?_
      rintro e WD1 ⟨rfl, CD1⟩
      go_wp2_with fail
      clear hHeld
      refine hK.out _ _ (HSD.out _ (CD1)) (fun hHeld => ?_)
      clear hK K
      try simp only [pA, pB, pC]
      refine tlA #[true, true, true, false, false, false, false, false, false, false, false, false, false, false, false] ?_
      clear CD0
      refine trA [3] ?_
      refine AllReadyH.cons (o := ⟨some 32, .call { callee := .value (.func 47), args := #[.tmp 30, .tmp 31], argTypes := #[81, 81] }, 4, _, _, none⟩) rfl (fun K hK => ?_) AllReadyH.nil
      go_simp
      go_at_call 47
      refine (Has.call CD1 (nearo_is d0 d1 d2 d3 e0 e1 e2 e3 _ HNR.out _)).mono ?_
      rintro e WD2 ⟨rfl, CD2⟩
      go_wp2_with fail
      clear hHeld
      refine hK.out _ _ (HSD.out _ (CD2)) (fun hHeld => ?_)
      clear hK K
      try simp only [pA, pB, pC]
      refine tlA #[true, true, true, true, false, false, false, false, false, false, false, false, false, false, false] ?_
      clear CD1
      refine tbA [4] ?_
      refine tkA (.bool true) (oi := ⟨some 33, .move (.tmp 32), 4, _, _, none⟩) ?_
      simp only [Act.put, pA, pB, pC]
      refine teA ?_
      refine tlA #[true, true, true, true, true, false, false, false, false, false, false, false, false, false, false] ?_
      refine tbA [5, 6, 7, 8, 9, 10] ?_
      refine tkA (.slice (some ⟨q, o + k * 2, none⟩) 2 (ac - k)) (oi := ⟨some 34, .move (.tmp 7), 42, _, _, some (4, true)⟩) ?_
      simp only [Act.put, pA, pB, pC]
      refine tkA (.pointer (some ⟨q, o + k * 2, none⟩)) (oi := ⟨some 35, .indexAddr 42 (.tmp 34) (.const (.int .i64 0)), 0, _, _, some (4, true)⟩) ?_
      simp only [Act.put, pA, pB, pC]
      refine tkA (.agg #[.int .i64 x0, .int .i64 y0]) (oi := ⟨some 36, .load 37 (.tmp 35), 37, _, _, some (4, true)⟩) ?_
      simp only [Act.put, pA, pB, pC]
      refine tkA (.slice (some ⟨q, o + k * 2, none⟩) 2 (ac - k)) (oi := ⟨some 37, .move (.tmp 7), 42, _, _, some (4, true)⟩) ?_
      simp only [Act.put, pA, pB, pC]
      refine tkA (.pointer (some ⟨q, o + k * 2 + 2, none⟩)) (oi := ⟨some 38, .indexAddr 42 (.tmp 37) (.const (.int .i64 1)), 0, _, _, some (4, true)⟩) ?_
      simp only [Act.put, pA, pB, pC]
      refine tkA (.agg #[.int .i64 x1, .int .i64 y1]) (oi := ⟨some 39, .load 37 (.tmp 38), 37, _, _, some (4, true)⟩) ?_
      simp only [Act.put, pA, pB, pC]
      refine teA ?_
      refine tlA #[true, true, true, true, true, true, true, true, true, true, true, false, false, false, false] ?_
      refine tbA [11, 12] ?_
      refine tkA (.pointer (some ⟨w.heap.size + 1, 1, none⟩)) (oi := ⟨some 40, .fieldAddr 44 (.tmp 3) 1, 0, _, _, some (4, true)⟩) ?_
      simp only [Act.put, pA, pB, pC]
      refine tkA (.slice ba bn bc) (oi := ⟨some 41, .load 42 (.tmp 40), 42, _, _, some (4, true)⟩) ?_
      simp only [Act.put, pA, pB, pC]
      refine teA ?_
      refine tlA #[true, true, true, true, true, true, true, true, true, true, true, true, true, false, false] ?_
      refine trA [13] ?_
      refine AllReadyH.cons (o := ⟨some 42, .call { callee := .value (.func 48), args := #[.tmp 36, .tmp 39, .tmp 41], argTypes := #[37, 37, 42] }, 4, _, _, some (4, true)⟩) rfl (fun K hK => ?_) AllReadyH.nil
      go_simp
      go_at_call 48
      refine (Has.call CD2 (meets_is x0 y0 x1 y1 _ bln false HM.out _ (HB.out.later CD2.low))).mono ?_
      rintro e WD3 ⟨rfl, CD3⟩
      go_wp2_with fail
      clear hHeld
      refine hK.out _ _ (HSD.out _ (CD3)) (fun hHeld => ?_)
      clear hK K
      try simp only [pA, pB, pC]
      refine tlA #[true, true, true, true, true, true, true, true, true, true, true, true, true, true, false] ?_
      clear CD2
      refine tbA [14] ?_
      refine tkA (.bool false) (oi := ⟨some 43, .pick (.tmp 33) (.tmp 42) (.const (.bool false)), 4, _, _, none⟩) ?_
      simp only [Act.put, pA, pB, pC]
      refine teA ?_
      refine tlA #[true, true, true, true, true, true, true, true, true, true, true, true, true, true, true] ?_
      refine wpAnyH_done (by kernel_rfl) ?_ _
      clear hHeld
      clear HSD
      have HS := Lib.hid (show anyTo (crK aln bln) (k + 1) = false ∧ k + 1 ≤ aln.length - 1 ∧ Has w [(E, [.int .i64 e0, .int .i64 e1, .int .i64 e2, .int .i64 e3]), (w.heap.size + 1, [.int .i64 bid, .slice ba bn bc, .int .i64 blv, .string bcl, .string bnm, .bool bst, .int .i64 bwt, .int .i64 bds]), (w.heap.size, [.int .i64 aid, .slice (some ⟨q, o, none⟩) an ac, .int .i64 alv, .string acl, .string anm, .bool ast, .int .i64 awt, .int .i64 ads])] WD3 from ⟨anyTo_no HI.out.1 (hS.out), by rw [HN.out]; omega, CD3⟩)
      clear CD3 b6 b7 b8
      go_wp2_with fail
      go_roundw
      case rel => exact ⟨k + 1, by omega, by go_num, HS⟩
      case measure => simp [RowKit.intOf]; omega
     ·replace hS := Lib.hid hS
      have HSD := Lib.hid (show ∀ w', Has w [(E, [.int .i64 e0, .int .i64 e1, .int .i64 e2, .int .i64 e3]), (w.heap.size + 1, [.int .i64 bid, .slice ba bn bc, .int .i64 blv, .string bcl, .string bnm, .bool bst, .int .i64 bwt, .int .i64 bds]), (w.heap.size, [.int .i64 aid, .slice (some ⟨q, o, none⟩) an ac, .int .i64 alv, .string acl, .string anm, .bool ast, .int .i64 awt, .int .i64 ads])] w' → (w'.cell? ⟨E, 0, none⟩ = some (.int .i64 e0) ∧ w'.cell? ⟨E, 1, none⟩ = some (.int .i64 e1) ∧ w'.cell? ⟨E, 2, none⟩ = some (.int .i64 e2) ∧ w'.cell? ⟨E, 3, none⟩ = some (.int .i64 e3) ∧ w'.cell? ⟨w.heap.size + 1, 0, none⟩ = some (.int .i64 bid) ∧ w'.cell? ⟨w.heap.size + 1, 1, none⟩ = some (.slice ba bn bc) ∧ w'.cell? ⟨w.heap.size + 1, 2, none⟩ = some (.int .i64 blv) ∧ w'.cell? ⟨w.heap.size + 1, 3, none⟩ = some (.string bcl) ∧ w'.cell? ⟨w.heap.size + 1, 4, none⟩ = some (.string bnm) ∧ w'.cell? ⟨w.heap.size + 1, 5, none⟩ = some (.bool bst) ∧ w'.cell? ⟨w.heap.size + 1, 6, none⟩ = some (.int .i64 bwt) ∧ w'.cell? ⟨w.heap.size + 1, 7, none⟩ = some (.int .i64 bds) ∧ w'.cell? ⟨w.heap.size, 0, none⟩ = some (.int .i64 aid) ∧ w'.cell? ⟨w.heap.size, 1, none⟩ = some (.slice (some ⟨q, o, none⟩) an ac) ∧ w'.cell? ⟨w.heap.size, 2, none⟩ = some (.int .i64 alv) ∧ w'.cell? ⟨w.heap.size, 3, none⟩ = some (.string acl) ∧ w'.cell? ⟨w.heap.size, 4, none⟩ = some (.string anm) ∧ w'.cell? ⟨w.heap.size, 5, none⟩ = some (.bool ast) ∧ w'.cell? ⟨w.heap.size, 6, none⟩ = some (.int .i64 awt) ∧ w'.cell? ⟨w.heap.size, 7, none⟩ = some (.int .i64 ads) ∧ w'.cell? ⟨q, o + k * 2, none⟩ = some (.int .i64 x0) ∧ w'.cell? ⟨q, o + k * 2 + 1, none⟩ = some (.int .i64 y0) ∧ w'.cell? ⟨q, o + k * 2 + 2, none⟩ = some (.int .i64 x1) ∧ w'.cell? ⟨q, o + k * 2 + 2 + 1, none⟩ = some (.int .i64 y1)) ∧ Has w [(E, [.int .i64 e0, .int .i64 e1, .int .i64 e2, .int .i64 e3]), (w.heap.size + 1, [.int .i64 bid, .slice ba bn bc, .int .i64 blv, .string bcl, .string bnm, .bool bst, .int .i64 bwt, .int .i64 bds]), (w.heap.size, [.int .i64 aid, .slice (some ⟨q, o, none⟩) an ac, .int .i64 alv, .string acl, .string anm, .bool ast, .int .i64 awt, .int .i64 ads])] w' from fun w' h => by
       have hR := HA.out.later h.low
       exact ⟨⟨h.fact (.head _) (i := 0) rfl, h.fact (.head _) (i := 1) rfl, h.fact (.head _) (i := 2) rfl, h.fact (.head _) (i := 3) rfl, h.tail.fact (.head _) (i := 0) rfl, h.tail.fact (.head _) (i := 1) rfl, h.tail.fact (.head _) (i := 2) rfl, h.tail.fact (.head _) (i := 3) rfl, h.tail.fact (.head _) (i := 4) rfl, h.tail.fact (.head _) (i := 5) rfl, h.tail.fact (.head _) (i := 6) rfl, h.tail.fact (.head _) (i := 7) rfl, h.tail.tail.fact (.head _) (i := 0) rfl, h.tail.tail.fact (.head _) (i := 1) rfl, h.tail.tail.fact (.head _) (i := 2) rfl, h.tail.tail.fact (.head _) (i := 3) rfl, h.tail.tail.fact (.head _) (i := 4) rfl, h.tail.tail.fact (.head _) (i := 5) rfl, h.tail.tail.fact (.head _) (i := 6) rfl, h.tail.tail.fact (.head _) (i := 7) rfl, (hR.cells HP.out).1, (hR.cells HP.out).2, (by have := (hR.cells HQ.out).1; rw [show o + k * 2 + 2 = o + (k + 1) * 2 by omega]; exact this), (by have := (hR.cells HQ.out).2; rw [show o + k * 2 + 2 = o + (k + 1) * 2 by omega]; exact this)⟩, h⟩)
      have CD0 := C3.drew
      refine wp_region_held_drew (S := (fun w' => (w'.cell? ⟨E, 0, none⟩ = some (.int .i64 e0) ∧ w'.cell? ⟨E, 1, none⟩ = some (.int .i64 e1) ∧ w'.cell? ⟨E, 2, none⟩ = some (.int .i64 e2) ∧ w'.cell? ⟨E, 3, none⟩ = some (.int .i64 e3) ∧ w'.cell? ⟨w.heap.size + 1, 0, none⟩ = some (.int .i64 bid) ∧ w'.cell? ⟨w.heap.size + 1, 1, none⟩ = some (.slice ba bn bc) ∧ w'.cell? ⟨w.heap.size + 1, 2, none⟩ = some (.int .i64 blv) ∧ w'.cell? ⟨w.heap.size + 1, 3, none⟩ = some (.string bcl) ∧ w'.cell? ⟨w.heap.size + 1, 4, none⟩ = some (.string bnm) ∧ w'.cell? ⟨w.heap.size + 1, 5, none⟩ = some (.bool bst) ∧ w'.cell? ⟨w.heap.size + 1, 6, none⟩ = some (.int .i64 bwt) ∧ w'.cell? ⟨w.heap.size + 1, 7, none⟩ = some (.int .i64 bds) ∧ w'.cell? ⟨w.heap.size, 0, none⟩ = some (.int .i64 aid) ∧ w'.cell? ⟨w.heap.size, 1, none⟩ = some (.slice (some ⟨q, o, none⟩) an ac) ∧ w'.cell? ⟨w.heap.size, 2, none⟩ = some (.int .i64 alv) ∧ w'.cell? ⟨w.heap.size, 3, none⟩ = some (.string acl) ∧ w'.cell? ⟨w.heap.size, 4, none⟩ = some (.string anm) ∧ w'.cell? ⟨w.heap.size, 5, none⟩ = some (.bool ast) ∧ w'.cell? ⟨w.heap.size, 6, none⟩ = some (.int .i64 awt) ∧ w'.cell? ⟨w.heap.size, 7, none⟩ = some (.int .i64 ads) ∧ w'.cell? ⟨q, o + k * 2, none⟩ = some (.int .i64 x0) ∧ w'.cell? ⟨q, o + k * 2 + 1, none⟩ = some (.int .i64 y0) ∧ w'.cell? ⟨q, o + k * 2 + 2, none⟩ = some (.int .i64 x1) ∧ w'.cell? ⟨q, o + k * 2 + 2 + 1, none⟩ = some (.int .i64 y1)) ∧ Has w [(E, [.int .i64 e0, .int .i64 e1, .int .i64 e2, .int .i64 e3]), (w.heap.size + 1, [.int .i64 bid, .slice ba bn bc, .int .i64 blv, .string bcl, .string bnm, .bool bst, .int .i64 bwt, .int .i64 bds]), (w.heap.size, [.int .i64 aid, .slice (some ⟨q, o, none⟩) an ac, .int .i64 alv, .string acl, .string anm, .bool ast, .int .i64 awt, .int .i64 ads])] w')) (by kernel_rfl) (HSD.out _ (CD0)) (fun hHeld => ?_)
      clear C3
      generalize wr.drew = WD0 at *
      refine tbA [0, 2] ?_
      refine tkA (.slice (some ⟨q, o + k * 2, none⟩) 2 (ac - k)) (oi := ⟨some 29, .move (.tmp 7), 42, _, _, none⟩) ?_
      simp only [Act.put, pA, pB, pC]
      refine tkA (.agg #[.int .i64 e0, .int .i64 e1, .int .i64 e2, .int .i64 e3]) (oi := ⟨some 31, .load 81 (.tmp 5), 81, _, _, none⟩) ?_
      simp only [Act.put, pA, pB, pC]
      refine teA ?_
      refine tlA #[true, false, true, false, false, false, false, false, false, false, false, false, false, false, false] ?_
      refine trA [1] ?_
      refine AllReadyH.cons (o := ⟨some 30, .call { callee := .value (.func 46), args := #[.tmp 29], argTypes := #[42] }, 81, _, _, none⟩) rfl (fun K hK => ?_) AllReadyH.nil
      go_simp
      go_at_call 46
      refine (Has.call CD0 (box_is _ _ d0 d1 d2 d3 HD.out _ ((HA.out.later CD0.low).two HP.out HQ.out))).mono ?_
      rintro e WD1 ⟨rfl, CD1⟩
      go_wp2_with fail
      clear hHeld
      refine hK.out _ _ (HSD.out _ (CD1)) (fun hHeld => ?_)
      clear hK K
      try simp only [pA, pB, pC]
      refine tlA #[true, true, true, false, false, false, false, false, false, false, false, false, false, false, false] ?_
      clear CD0
      refine trA [3] ?_
      refine AllReadyH.cons (o := ⟨some 32, .call { callee := .value (.func 47), args := #[.tmp 30, .tmp 31], argTypes := #[81, 81] }, 4, _, _, none⟩) rfl (fun K hK => ?_) AllReadyH.nil
      go_simp
      go_at_call 47
      refine (Has.call CD1 (nearo_is d0 d1 d2 d3 e0 e1 e2 e3 _ HNR.out _)).mono ?_
      rintro e WD2 ⟨rfl, CD2⟩
      go_wp2_with fail
      clear hHeld
      refine hK.out _ _ (HSD.out _ (CD2)) (fun hHeld => ?_)
      clear hK K
      try simp only [pA, pB, pC]
      refine tlA #[true, true, true, true, false, false, false, false, false, false, false, false, false, false, false] ?_
      clear CD1
      refine tbA [4] ?_
      refine tkA (.bool true) (oi := ⟨some 33, .move (.tmp 32), 4, _, _, none⟩) ?_
      simp only [Act.put, pA, pB, pC]
      refine teA ?_
      refine tlA #[true, true, true, true, true, false, false, false, false, false, false, false, false, false, false] ?_
      refine tbA [5, 6, 7, 8, 9, 10] ?_
      refine tkA (.slice (some ⟨q, o + k * 2, none⟩) 2 (ac - k)) (oi := ⟨some 34, .move (.tmp 7), 42, _, _, some (4, true)⟩) ?_
      simp only [Act.put, pA, pB, pC]
      refine tkA (.pointer (some ⟨q, o + k * 2, none⟩)) (oi := ⟨some 35, .indexAddr 42 (.tmp 34) (.const (.int .i64 0)), 0, _, _, some (4, true)⟩) ?_
      simp only [Act.put, pA, pB, pC]
      refine tkA (.agg #[.int .i64 x0, .int .i64 y0]) (oi := ⟨some 36, .load 37 (.tmp 35), 37, _, _, some (4, true)⟩) ?_
      simp only [Act.put, pA, pB, pC]
      refine tkA (.slice (some ⟨q, o + k * 2, none⟩) 2 (ac - k)) (oi := ⟨some 37, .move (.tmp 7), 42, _, _, some (4, true)⟩) ?_
      simp only [Act.put, pA, pB, pC]
      refine tkA (.pointer (some ⟨q, o + k * 2 + 2, none⟩)) (oi := ⟨some 38, .indexAddr 42 (.tmp 37) (.const (.int .i64 1)), 0, _, _, some (4, true)⟩) ?_
      simp only [Act.put, pA, pB, pC]
      refine tkA (.agg #[.int .i64 x1, .int .i64 y1]) (oi := ⟨some 39, .load 37 (.tmp 38), 37, _, _, some (4, true)⟩) ?_
      simp only [Act.put, pA, pB, pC]
      refine teA ?_
      refine tlA #[true, true, true, true, true, true, true, true, true, true, true, false, false, false, false] ?_
      refine tbA [11, 12] ?_
      refine tkA (.pointer (some ⟨w.heap.size + 1, 1, none⟩)) (oi := ⟨some 40, .fieldAddr 44 (.tmp 3) 1, 0, _, _, some (4, true)⟩) ?_
      simp only [Act.put, pA, pB, pC]
      refine tkA (.slice ba bn bc) (oi := ⟨some 41, .load 42 (.tmp 40), 42, _, _, some (4, true)⟩) ?_
      simp only [Act.put, pA, pB, pC]
      refine teA ?_
      refine tlA #[true, true, true, true, true, true, true, true, true, true, true, true, true, false, false] ?_
      refine trA [13] ?_
      refine AllReadyH.cons (o := ⟨some 42, .call { callee := .value (.func 48), args := #[.tmp 36, .tmp 39, .tmp 41], argTypes := #[37, 37, 42] }, 4, _, _, some (4, true)⟩) rfl (fun K hK => ?_) AllReadyH.nil
      go_simp
      go_at_call 48
      refine (Has.call CD2 (meets_is x0 y0 x1 y1 _ bln true HM.out _ (HB.out.later CD2.low))).mono ?_
      rintro e WD3 ⟨rfl, CD3⟩
      go_wp2_with fail
      clear hHeld
      refine hK.out _ _ (HSD.out _ (CD3)) (fun hHeld => ?_)
      clear hK K
      try simp only [pA, pB, pC]
      refine tlA #[true, true, true, true, true, true, true, true, true, true, true, true, true, true, false] ?_
      clear CD2
      refine tbA [14] ?_
      refine tkA (.bool true) (oi := ⟨some 43, .pick (.tmp 33) (.tmp 42) (.const (.bool false)), 4, _, _, none⟩) ?_
      simp only [Act.put, pA, pB, pC]
      refine teA ?_
      refine tlA #[true, true, true, true, true, true, true, true, true, true, true, true, true, true, true] ?_
      refine wpAnyH_done (by kernel_rfl) ?_ _
      clear hHeld
      clear HSD
      have hr : r = true := HR.out.symm.trans (anyTo_yes hS.out (by rw [HN.out]; omega)).symm
      subst hr
      have HDD := Lib.hid CD3
      clear CD3
      go_wp2_with fail
      go_ret
      exact ⟨rfl, HDD.out.low⟩
   ·have b1' : (an : Int) - 1 ≤ k := by have := HI.out.2.1; rw [HN.out] at this; omega
    have hr : r = false := by
     rw [← HR.out]
     have : k = aln.length - 1 := by have := HI.out.2.1; rw [HN.out] at this ⊢; omega
     rw [← this]; exact HI.out.1
    subst hr
    go_wp2_with fail
    go_ret
    exact ⟨rfl, HI.out.2.2.low⟩
theorem crossw_is (x y : Wy) (u v : Value) (r : Bool) (h : crossW x y = r) (w : World) (hu : RowP w u x.ln) (hv : RowP w v y.ln) :
  Calls Tryz.prog 22 #[wv x u, wv y v] w fun e w' => e = .returned (.bool r) ∧ Below w.heap.size w w' := h ▸ crossw_any x y u v w hu hv

end Go.Proofs.YtoaldbjcpfkcjaaGreat
