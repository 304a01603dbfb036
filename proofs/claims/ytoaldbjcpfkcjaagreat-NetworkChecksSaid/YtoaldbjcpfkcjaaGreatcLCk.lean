/- Law Checks. -/
import Derived.Test.YtoaldbjcpfkcjaaGreatcFrameW
import Derived.Test.YtoaldbjcpfkcjaaGreatcFw
import Derived.Test.YtoaldbjcpfkcjaaGreatcWx
import Derived.Test.YtoaldbjcpfkcjaaGreatcCh
import Derived.Test.YtoaldbjcpfkcjaaGreatcLg
import Derived.Test.YtoaldbjcpfkcjaaGreatcRk
import Derived.Test.YtoaldbjcpfkcjaaGreatcRx
import Derived.Test.YtoaldbjcpfkcjaaGreatcSw
import Derived.Test.YtoaldbjcpfkcjaaGreatcSg
namespace Go.Proofs.YtoaldbjcpfkcjaaGreat
open Go.RowKit Go.Lib

open G in
set_option linter.unusedSimpArgs false in
set_option maxRecDepth 100000 in
set_option maxHeartbeats 4000000 in
theorem few_any (v : Value) (ws : List Wy) (w : World) (RW : RowW w v ws) (hin : ∀ t ∈ ws, InW t) :
  Calls Tryz.prog 12 #[v] w fun e w' => ∃ u us, e = .returned u ∧ RowW w' u us ∧ us.length ≤ 5 ∧ (∀ t ∈ us, InW t) ∧ Below w.heap.size w w' := by
 obtain ⟨wa, n, wc, rfl, hn, hc1, hc2, RW⟩ := RW.form
 have HN := Lib.hid hn
 have HW := Lib.hid RW
 have HI := Lib.hid hin
 clear hn RW hin
 go_enter Tryz.func12, Tryz.ntmps12
 go_wp2_with fail
 go_loopw [3, 4] (fun o i W => ∃ (k : Nat) (ps : List Yw), k ≤ n ∧ k ≤ 5 ∧ i = .int .i64 k ∧ ps.length = k ∧ Hid (G.Own tY w.heap.size W o ps) ∧ Hid (∀ p ∈ ps, RowP w p.v p.a.ln ∧ InW p.a) ∧ Grows w W) (fun _ i _ => 5 - (RowKit.intOf i).toNat)
 case atStart => exact ⟨0, [], Nat.zero_le _, Nat.zero_le _, rfl, rfl, Lib.hid (G.Own.nil _ _), Lib.hid (fun _ h => by cases h), Below.refl _ _⟩
 case round =>
  obtain ⟨k, ps, hk, hk5, rfl, hl, HO, HP, hG⟩ := hrel
  by_cases hkn : k < n ∧ k < 5
  ·obtain ⟨hkn, hk6⟩ := hkn
   have b1 : (k : Int) < n := by omega
   have b2 : (k : Int) < 5 := by omega
   have b3 : (0 : Int) ≤ k := by omega
   obtain ⟨bb, oo, rfl, hcell⟩ := HW.out.spot (by rw [HN.out]; omega)
   obtain ⟨t, ht⟩ : ∃ t, ws[k]? = some t := ⟨_, List.getElem?_eq_getElem (by rw [HN.out]; omega)⟩
   obtain ⟨u, hr, a0, a1, a2, a3, a4, a5, a6, a7⟩ := hcell k t ht
   have HT := Lib.hid (HI.out t (List.mem_of_getElem? ht))
   obtain ⟨la, q, lc, rfl, hq, hr⟩ := hr.form
   have hr2 := hr
   obtain ⟨la', lc', he, hlc1, hlc2, -⟩ := hr2
   injection he with e1 e2 e3
   subst e1 e3
   clear e2
   rw [hq] at hlc1
   have HR := Lib.hid hr
   have HQ := Lib.hid hq
   obtain ⟨id, ln, lv, cl, nm, st, wt, ds⟩ := t
   simp only at hq hr HR HQ a0 a1 a2 a3 a4 a5 a6 a7
   have hk : ∀ {ad : Addr} {v : Value}, w.cell? ad = some v → wr.cell? ad = some v := fun {_ _} q => (Below.cell hG (World.block_lt_of_cell? w _ q)).trans q
   replace a0 := hk a0
   replace a1 := hk a1
   replace a2 := hk a2
   replace a3 := hk a3
   replace a4 := hk a4
   replace a5 := hk a5
   replace a6 := hk a6
   replace a7 := hk a7
   clear hk ht hcell hr hq
   have C0 := has1 (w := wr) [.int .i64 0, .slice none 0 0, .int .i64 0, .string { data := #[] }, .string { data := #[] }, .bool false, .int .i64 0, .int .i64 0] 44
   go_wp2_with (refine wpList_store_has (vs := [.int .i64 id, .slice la q lc, .int .i64 lv, .string cl, .string nm, .bool st, .int .i64 wt, .int .i64 ds]) rfl rfl rfl ?_ ?_ C0 rfl (by kernel_rfl) (by simp [Value.oneCell']) ?_)
   all_goals try rfl
   rintro w4 C1 -
   clear C0 a0 a1 a2 a3 a4 a5 a6 a7
   obtain ⟨M, hM⟩ : ∃ M, wr.heap.size = M := ⟨_, rfl⟩
   have HGr := Lib.hid hG
   have hwM : w.heap.size ≤ M := by rw [← hM]; exact hG.size
   rw [hM] at C1
   simp only [hM]
   have k1 := C1.fact (.head _) (i := 1) rfl
   have f1 := C1.free (.head _) (i := 1) rfl
   obtain ⟨m, hm⟩ : ∃ m : Nat, min q 6 = m := ⟨_, rfl⟩
   have hm1 : m ≤ q := by omega
   have hm2 : (if q ≤ 6 then q else 6) = m := by split <;> omega
   have hmm : min (q : Int) 6 = (m : Int) := by omega
   have c1 : (m : Int) ≤ lc := by omega
   have c2 : (m : Int) ≤ q := by omega
   have c3 : m ≤ lc := by omega
   have HQM := Lib.hid (show m ≤ ln.length by rw [HQ.out]; exact hm1)
   clear hm hm2
   go_upto_region 7 with fail
   have C2 := C1.set 1 (by simp) (.slice la m lc)
   change Has wr [(M, [.int .i64 id, .slice la m lc, .int .i64 lv, .string cl, .string nm, .bool st, .int .i64 wt, .int .i64 ds])] _ at C2
   generalize w4.setCell ⟨M, 1, none⟩ (.slice la m lc) = w5 at *
   clear C1 k1 f1
   have HG5 := Lib.hid (HGr.out.then C2.low)
   obtain ⟨x, hx⟩ : ∃ x : Yw, x = ⟨(la, m, lc), ⟨id, ln.take m, lv, cl, nm, st, wt, ds⟩⟩ := ⟨_, rfl⟩
   have HX := Lib.hid (show RowP w x.v x.a.ln ∧ InW x.a by
    subst hx
    exact ⟨HR.out.take m HQM.out, HT.out.lv, fun p hp => HT.out.ln p (List.mem_of_mem_take hp)⟩)
   obtain ⟨WC, hWC⟩ : ∃ WC, w5.alloc (.cells #[.int .i64 id, .slice la m lc, .int .i64 lv, .string cl, .string nm, .bool st, .int .i64 wt, .int .i64 ds] 44) = WC := ⟨_, rfl⟩
   have GC : Grows w5 WC := hWC ▸ (Below.refl _ w5).alloc (Nat.le_refl _) _
   have RC := Lib.hid (show G.Row tY WC (.slice (some ⟨w5.heap.size, 0, none⟩) 1 1) [x] by rw [hx, ← hWC]; exact G.row_one (T := tY) w5 44 ⟨(la, m, lc), ⟨id, ln.take m, lv, cl, nm, st, wt, ds⟩⟩ _ rfl)
   have HO2 := Lib.hid ((HO.out.later C2.low).later GC)
   have HG6 := Lib.hid (HG5.out.then GC)
   have d0 := C2.fact (.head _) (i := 0) rfl
   have d1 := C2.fact (.head _) (i := 1) rfl
   have d2 := C2.fact (.head _) (i := 2) rfl
   have d3 := C2.fact (.head _) (i := 3) rfl
   have d4 := C2.fact (.head _) (i := 4) rfl
   have d5 := C2.fact (.head _) (i := 5) rfl
   have d6 := C2.fact (.head _) (i := 6) rfl
   have d7 := C2.fact (.head _) (i := 7) rfl
   have HWC := Lib.hid hWC
   have HPL := Lib.hid hl
   clear hx hWC GC C2 HG5 hG hl HO
   go_wp2_with (at_builtin; rw [HWC.out]; refine G.wpList_append tY_ok rfl _ _ rfl rfl HO2.out rfl RC.out (by rw [HPL.out, List.length_singleton]; omega) HG6.out.size ?_)
   intro v6 w6 hO6 hG6 _
   have HO6 := Lib.hid hO6
   have HG7 := G.grow_append HG6.out HO2.out (Nat.le_refl _) hG6
   have HP7 := Lib.hid (fun p (hp : p ∈ ps ++ [x]) => show RowP w p.v p.a.ln ∧ InW p.a by
    rcases List.mem_append.1 hp with hp | hp
    ·exact HP.out p hp
    ·rw [List.mem_singleton] at hp; subst hp; exact HX.out)
   clear hO6 hG6 HO2 RC HG6 d0 d1 d2 d3 d4 d5 d6 d7
   go_wp2_with fail
   go_roundw
   case rel => exact ⟨k + 1, ps ++ [x], by omega, by omega, by go_num, by rw [List.length_append, HPL.out, List.length_singleton], HO6, HP7, HG7⟩
   case measure => simp [RowKit.intOf]; omega
  ·have HR := Lib.hid (RowY.row ⟨ps, rfl, HO.out.row, fun p hp => (HP.out p hp).1.later hG⟩)
   have HL5 := Lib.hid (show (ps.map Yw.a).length ≤ 5 by rw [List.length_map]; omega)
   have HIN := Lib.hid (fun t (ht : t ∈ ps.map Yw.a) => show InW t by
    obtain ⟨p, hp, rfl⟩ := List.mem_map.1 ht
    exact (HP.out p hp).2)
   have HG := Lib.hid hG
   clear hl HO HP hG
   by_cases h1 : k < n
   ·obtain rfl : k = 5 := by omega
    have b1 : ((5 : Nat) : Int) < n := by omega
    have b2 : (5 : Int) < n := by omega
    go_wp2_with fail
    go_ret
    exact ⟨_, _, rfl, HR.out, HL5.out, HIN.out, HG.out⟩
   ·obtain rfl : k = n := by omega
    go_wp2_with fail
    go_ret
    exact ⟨_, _, rfl, HR.out, HL5.out, HIN.out, HG.out⟩

end Go.Proofs.YtoaldbjcpfkcjaaGreat

namespace Go.Proofs.YtoaldbjcpfkcjaaGreat
open Go.RowKit Go.Lib

/-- Any ways, few enough. -/
def OkX (W : World) (x : Value) : Prop := ∃ ws, RowW W x ws ∧ ws.length ≤ 100 ∧ ∀ t ∈ ws, InW t
theorem OkX.later {W W' : World} {x : Value} (h : OkX W x) (g : Grows W W') : OkX W' x := by
 obtain ⟨ws, h1, h2, h3⟩ := h
 exact ⟨ws, h1.later g, h2, h3⟩
theorem OkX.form {W : World} {x : Value} (h : OkX W x) : ∃ a n c, x = .slice a n c := by
 obtain ⟨ws, ⟨a, c, rfl, -⟩, -⟩ := h
 exact ⟨a, _, c, rfl⟩
theorem off_ne {A b o : Nat} {W : World} {cs : List Value} {T : TypeId} {x : Int} (hA : W.heap[A]? = some (.cells cs.toArray T (0, 0))) (hc : ∀ v ∈ cs, ∃ a n c, v = .slice a n c) (h : W.cell? ⟨b, o, none⟩ = some (.int .i64 x)) : A ≠ b := by
 rintro rfl
 rw [cell_of_row W A o _ T (0, 0) hA, List.getElem?_toArray] at h
 obtain ⟨a, n, c, e⟩ := hc _ (List.mem_of_getElem? h)
 cases e
theorem off_cell {A b o : Nat} {W W' : World} {v : Value} (O : Oth A W W') (hne : A ≠ b) (h : W.cell? ⟨b, o, none⟩ = some v) : W'.cell? ⟨b, o, none⟩ = some v := (O.cell (Ne.symm hne) (World.block_lt_of_cell? W _ h)).trans h
theorem RowP.off {A : Nat} {W W' : World} {cs : List Value} {T : TypeId} (hA : W.heap[A]? = some (.cells cs.toArray T (0, 0))) (hc : ∀ v ∈ cs, ∃ a n c, v = .slice a n c) (O : Oth A W W') {v : Value} {ps : List (Int × Int)} (h : RowP W v ps) : RowP W' v ps := by
 obtain ⟨a, cap, rfl, h1, h2, h3⟩ := h
 refine ⟨a, cap, rfl, h1, h2, h3.imp id ?_⟩
 rintro ⟨b, o, rfl, hq⟩
 refine ⟨b, o, rfl, fun i p hp => ?_⟩
 obtain ⟨c0, c1⟩ := hq i p hp
 have hne := off_ne hA hc c0
 exact ⟨off_cell O hne c0, off_cell O hne c1⟩
theorem RowW.off {A : Nat} {W W' : World} {cs : List Value} {T : TypeId} (hA : W.heap[A]? = some (.cells cs.toArray T (0, 0))) (hc : ∀ v ∈ cs, ∃ a n c, v = .slice a n c) (O : Oth A W W') {v : Value} {ws : List Wy} (h : RowW W v ws) : RowW W' v ws := by
 obtain ⟨a, cap, rfl, h1, h2, h3⟩ := h
 refine ⟨a, cap, rfl, h1, h2, h3.imp id ?_⟩
 rintro ⟨b, o, rfl, hq⟩
 refine ⟨b, o, rfl, fun i t ht => ?_⟩
 obtain ⟨u, hr, c0, c1, c2, c3, c4, c5, c6, c7⟩ := hq i t ht
 have hne := off_ne hA hc c0
 exact ⟨u, hr.off hA hc O, off_cell O hne c0, off_cell O hne c1, off_cell O hne c2, off_cell O hne c3, off_cell O hne c4, off_cell O hne c5, off_cell O hne c6, off_cell O hne c7⟩
theorem OkX.off {A : Nat} {W W' : World} {cs : List Value} {T : TypeId} (hA : W.heap[A]? = some (.cells cs.toArray T (0, 0))) (hc : ∀ v ∈ cs, ∃ a n c, v = .slice a n c) (O : Oth A W W') {x : Value} (h : OkX W x) : OkX W' x := by
 obtain ⟨ws, h1, h2, h3⟩ := h
 exact ⟨ws, h1.off hA hc O, h2, h3⟩
theorem has_heap {w0 W : World} {A : Nat} {cs : List Value} {T : TypeId} (g : Grows w0 W) (hA : W.heap[A]? = some (.cells cs.toArray T (0, 0))) (hge : w0.heap.size ≤ A) : Has w0 [(A, cs)] W := by
 have hlt : A < W.heap.size := by
  rcases Nat.lt_or_ge A W.heap.size with q | q
  ·exact q
  ·rw [Array.getElem?_eq_none q] at hA; cases hA
 refine ⟨fun p hp i v hv => ?_, fun p hp => ?_, fun p hp => ?_, List.pairwise_singleton _ _, g⟩ <;> obtain rfl := List.mem_singleton.1 hp
 ·exact ⟨by rw [cell_of_row W A i _ T (0, 0) hA, List.getElem?_toArray]; exact hv, frozen_of_row W A i _ T hA⟩
 ·exact hlt
 ·exact hge
theorem nil4_slices : ∀ v ∈ ([.slice none 0 0, .slice none 0 0, .slice none 0 0, .slice none 0 0] : List Value), ∃ a n c, v = .slice a n c := by
 intro v hv
 simp only [List.mem_cons, List.not_mem_nil, or_false] at hv
 rcases hv with rfl | rfl | rfl | rfl <;> exact ⟨none, 0, 0, rfl⟩
theorem MdW.inW {ws : List Wy} (h : MdW ws) : ∀ t ∈ ws, InW t := fun t ht => by
 obtain ⟨h1, -, -, h2⟩ := h.at' t ht
 exact ⟨by unfold I64; omega, fun p hp => by have := h2 p hp; unfold I64; omega⟩
theorem fnw_inW {ws : List Wy} (h : G.FnW ws) : ∀ t ∈ ws, InW t := fun t ht => by
 obtain ⟨h1, -, -, h2⟩ := h.at' t ht
 exact ⟨by unfold I64; omega, fun p hp => by have := h2 p hp; unfold I64; omega⟩
theorem rcrossw_is (x y : Wy) (u v : Value) (r : Bool) (h : crossW x y = r) (w : World) (hu : RowP w u x.ln) (hv : RowP w v y.ln) :
  Calls Tryz.prog 23 #[wv x u, wv y v] w fun e w' => e = .returned (.bool r) ∧ Below w.heap.size w w' := h ▸ rcrossw_any x y u v w hu hv
set_option linter.unusedSimpArgs false in
set_option maxRecDepth 100000 in
set_option maxHeartbeats 8000000 in
theorem checksl_any (v u : Value) (xs : List Int) (cs : List Wy) (ca cb : Nat) (cn : Int) (w : World) (RX : RowN w v xs) (RU : RowW w u cs) (hin : ∀ t ∈ cs, InW t) (ha : ca < 256) (hn : I64 cn) :
  Calls Tryz.prog 3 #[v, .agg #[u, .int .u8 ca, .int .u8 cb, .int .i64 cn]] w fun e w' => e = .returned (.bool true) ∧ Below w.heap.size w w' := by
 have HX := Lib.hid RX
 obtain ⟨ua, un, uc, rfl, -, -, -, RU⟩ := RU.form
 have HU := Lib.hid RU
 have HI := Lib.hid hin
 have HNN := Lib.hid hn
 clear RX RU hin hn
 have C0 := (Has.nil (Below.refl w.heap.size w)).push [.slice ua un uc, .int .u8 ca, .int .u8 cb, .int .i64 cn] 25
 go_enter Tryz.func3, Tryz.ntmps3
 go_upto_region 1 with fail
 change Has w [(w.heap.size, [.slice ua un uc, .int .u8 ca, .int .u8 cb, .int .i64 cn])] (w.alloc (.cells #[.slice ua un uc, .int .u8 ca, .int .u8 cb, .int .i64 cn] 25)) at C0
 generalize w.alloc (.cells #[.slice ua un uc, .int .u8 ca, .int .u8 cb, .int .i64 cn] 25) = w0 at *
 obtain ⟨D, hD⟩ : ∃ D, w.heap.size = D := ⟨_, rfl⟩
 have HD := Lib.hid hD
 rw [hD] at C0
 simp only [hD]
 clear hD
 go_wp2_with fail
 refine (Has.call C0 (sane_any _)).mono ?_
 rintro e w1 ⟨rfl, C1⟩
 clear C0
 go_wp2_with fail
 refine (made_any v xs w1 (HX.out.later C1.low)).mono ?_
 rintro e w2 ⟨mv, ms, rfl, hr0, HM, g2⟩
 have C2 := C1.later g2
 obtain ⟨ma, mn, mc, rfl, -, -, -, hr0⟩ := hr0.form
 have HM := Lib.hid HM
 have R0 := Lib.hid hr0
 have GW := Lib.hid (show Grows w w2 from C2.low)
 clear C1 g2 hr0
 go_upto_region 3 with fail
 go_cut [7] (fun p wx => ∃ (A : Nat) (x0 x1 x2 x3 : Value), p = .pointer (some ⟨A, 0, none⟩) ∧ Has w2 [(A, [x0, x1, x2, x3])] wx ∧ Hid (OkX wx x0) ∧ Hid (OkX wx x1) ∧ Hid (OkX wx x2) ∧ Hid (OkX wx x3))
 case first =>
  have HS := Lib.hid (show ∀ wx, Grows w2 wx → (wx.cell? ⟨D, 0, none⟩ = some (.slice ua un uc) ∧ wx.cell? ⟨D, 1, none⟩ = some (.int .u8 ca) ∧ wx.cell? ⟨D, 2, none⟩ = some (.int .u8 cb) ∧ wx.cell? ⟨D, 3, none⟩ = some (.int .i64 cn)) ∧ Grows w2 wx from fun wx g => by
   have h := C2.later g
   exact ⟨⟨h.fact (.head _) (i := 0) rfl, h.fact (.head _) (i := 1) rfl, h.fact (.head _) (i := 2) rfl, h.fact (.head _) (i := 3) rfl⟩, g⟩)
  clear C2
  refine wp_region_held_drew (S := (fun wx => ((wx.cell? ⟨D, 0, none⟩ = some (.slice ua un uc) ∧ wx.cell? ⟨D, 1, none⟩ = some (.int .u8 ca) ∧ wx.cell? ⟨D, 2, none⟩ = some (.int .u8 cb) ∧ wx.cell? ⟨D, 3, none⟩ = some (.int .i64 cn)) ∧ Grows w2 wx))) (by kernel_rfl) (HS.out _ ((Below.refl _ w2).drew)) (fun hHeld => ?_)
  have GG : Grows w2 w2.drew := (Below.refl _ w2).drew
  have H0 := Lib.hid (R0.out.later GG)
  generalize w2.drew = wa at *
  refine tbA [0, 1, 3, 4, 6, 7] ?_
  refine tkA (.slice ma mn mc) (oi := ⟨some 19, .move (.tmp 6), 23, _, _, none⟩) ?_
  simp only [Act.put, pA, pB, pC]
  refine tkA (v) (oi := ⟨some 20, .move (.tmp 0), 22, _, _, none⟩) ?_
  simp only [Act.put, pA, pB, pC]
  refine tkA (.slice ma mn mc) (oi := ⟨some 22, .move (.tmp 6), 23, _, _, none⟩) ?_
  simp only [Act.put, pA, pB, pC]
  refine tkA (.agg #[.slice ua un uc, .int .u8 ca, .int .u8 cb, .int .i64 cn]) (oi := ⟨some 23, .load 25 (.tmp 3), 25, _, _, none⟩) ?_
  simp only [Act.put, pA, pB, pC]
  refine tkA (.pointer (some ⟨D, 0, none⟩)) (oi := ⟨some 25, .fieldAddr 25 (.tmp 3) 0, 0, _, _, none⟩) ?_
  simp only [Act.put, pA, pB, pC]
  refine tkA (.slice ua un uc) (oi := ⟨some 26, .load 23 (.tmp 25), 23, _, _, none⟩) ?_
  simp only [Act.put, pA, pB, pC]
  refine teA ?_
  refine tlA #[true, true, false, true, true, false, true, true, false, false, false, false] ?_
  refine trA [2, 10] ?_
  refine AllReadyH.cons (o := ⟨some 21, .call { callee := .value (.func 10), args := #[.tmp 20], argTypes := #[22] }, 23, _, _, none⟩) rfl (fun K hK => ?_) (?_)
  ·go_simp
   go_at_call 10
   refine (G.fine_any v xs _ (HX.out.later (GW.out.then GG))).mono ?_
   rintro e waa ⟨yy, ws1, rfl, rr, -, ff, gx⟩
   have okx : OkX waa yy := ⟨ws1, rr, by have := ff.len; omega, fnw_inW ff⟩
   obtain ⟨y1, n1, z1, rfl⟩ := okx.form
   have H1 := Lib.hid okx
   clear rr okx ff
   go_wp2_with fail
   have G2 := GG.then gx
   have T0 := Lib.hid (H0.out.later gx)
   clear H0
   have H0 := T0
   clear T0
   clear GG
   have GG := G2
   clear G2 gx
   clear hHeld
   refine hK.out _ _ (HS.out _ GG) (fun hHeld => ?_)
   clear hK K
   try simp only [pA, pB, pC]
   refine tlA #[true, true, true, true, true, false, true, true, false, false, false, false] ?_
   refine trA [5, 10] ?_
   refine AllReadyH.cons (o := ⟨some 24, .call { callee := .value (.func 11), args := #[.tmp 22, .tmp 23], argTypes := #[23, 25] }, 23, _, _, none⟩) rfl (fun K hK => ?_) (?_)
   ·go_simp
    go_at_call 11
    refine (changed_any (.slice ma mn mc) (.slice ua un uc) ms _ H0.out HM.out.inW (by have := HM.out.len; omega) (fun t ht => by have := (HM.out.at' t ht).2.2.1; omega) ⟨_, _, _, rfl⟩ ca cb ha cn HNN.out).mono ?_
    rintro e waaa ⟨yy, ws1, rfl, rr, ll, ii, gx⟩
    have okx : OkX waaa yy := ⟨ws1, rr, ll, ii⟩
    obtain ⟨y2, n2, z2, rfl⟩ := okx.form
    have H2 := Lib.hid okx
    clear rr okx ll ii
    go_wp2_with fail
    have G2 := GG.then gx
    have T0 := Lib.hid (H0.out.later gx)
    clear H0
    have H0 := T0
    clear T0
    have T1 := Lib.hid (H1.out.later gx)
    clear H1
    have H1 := T1
    clear T1
    clear GG
    have GG := G2
    clear G2 gx
    clear hHeld
    refine hK.out _ _ (HS.out _ GG) (fun hHeld => ?_)
    clear hK K
    try simp only [pA, pB, pC]
    refine tlA #[true, true, true, true, true, true, true, true, false, false, false, false] ?_
    refine trA [8, 10] ?_
    refine AllReadyH.cons (o := ⟨some 27, .call { callee := .value (.func 12), args := #[.tmp 26], argTypes := #[23] }, 23, _, _, none⟩) rfl (fun K hK => ?_) (?_)
    ·go_simp
     go_at_call 12
     refine (few_any (.slice ua un uc) cs _ (HU.out.later (GW.out.then GG)) HI.out).mono ?_
     rintro e waaaa ⟨yy, ws1, rfl, rr, ll, ii, gx⟩
     have okx : OkX waaaa yy := ⟨ws1, rr, by omega, ii⟩
     obtain ⟨y3, n3, z3, rfl⟩ := okx.form
     have H3 := Lib.hid okx
     clear rr okx ll ii
     go_wp2_with fail
     have G2 := GG.then gx
     have T0 := Lib.hid (H0.out.later gx)
     clear H0
     have H0 := T0
     clear T0
     have T1 := Lib.hid (H1.out.later gx)
     clear H1
     have H1 := T1
     clear T1
     have T2 := Lib.hid (H2.out.later gx)
     clear H2
     have H2 := T2
     clear T2
     clear GG
     have GG := G2
     clear G2 gx
     clear hHeld
     refine hK.out _ _ (HS.out _ GG) (fun hHeld => ?_)
     clear hK K
     try simp only [pA, pB, pC]
     refine tlA #[true, true, true, true, true, true, true, true, true, false, false, false] ?_
     refine tbA [9] ?_
     refine tkA (.agg #[.slice ma mn mc, .slice y1 n1 z1, .slice y2 n2 z2, .slice y3 n3 z3]) (oi := ⟨some 28, .build 30 #[(0, .tmp 19), (1, .tmp 21), (2, .tmp 24), (3, .tmp 27)], 30, _, _, none⟩) ?_
     simp only [Act.put, pA, pB, pC]
     refine teA ?_
     refine tlA #[true, true, true, true, true, true, true, true, true, true, false, false] ?_
     refine trA [10] ?_
     refine AllReadyH.cons (o := ⟨some 7, .alloc 30, 0, _, _, none⟩) rfl (fun K hK => ?_) (AllReadyH.nil)
     ·go_simp
      have hA : (waaaa.alloc (.cells #[.slice none 0 0, .slice none 0 0, .slice none 0 0, .slice none 0 0] 30)).heap[waaaa.heap.size]? = some (.cells ([.slice none 0 0, .slice none 0 0, .slice none 0 0, .slice none 0 0] : List Value).toArray 30 (0, 0)) := heap_alloc_new waaaa _
      have gx : Grows waaaa (waaaa.alloc (.cells #[.slice none 0 0, .slice none 0 0, .slice none 0 0, .slice none 0 0] 30)) := (Below.refl _ waaaa).alloc (Nat.le_refl _) _
      have hAw := GG.size
      generalize waaaa.alloc (.cells #[.slice none 0 0, .slice none 0 0, .slice none 0 0, .slice none 0 0] 30) = waaaaa at *
      generalize waaaa.heap.size = A at *
      have G2 := GG.then gx
      have T0 := Lib.hid (H0.out.later gx)
      clear H0
      have H0 := T0
      clear T0
      have T1 := Lib.hid (H1.out.later gx)
      clear H1
      have H1 := T1
      clear T1
      have T2 := Lib.hid (H2.out.later gx)
      clear H2
      have H2 := T2
      clear T2
      have T3 := Lib.hid (H3.out.later gx)
      clear H3
      have H3 := T3
      clear T3
      clear GG
      have GG := G2
      clear G2 gx
      clear hHeld
      refine hK.out _ _ (HS.out _ GG) (fun hHeld => ?_)
      clear hK K
      try simp only [pA, pB, pC]
      refine tlA #[true, true, true, true, true, true, true, true, true, true, true, false] ?_
      refine trA [11] ?_
      refine AllReadyH.cons (o := ⟨none, .store 30 (.tmp 7) (.tmp 28), 0, _, _, none⟩) rfl (fun K hK => ?_) AllReadyH.nil
      have HAS := has_heap GG hA hAw
      refine held_store_has (vs := [.slice ma mn mc, .slice y1 n1 z1, .slice y2 n2 z2, .slice y3 n3 z3]) rfl rfl rfl rfl rfl HAS rfl (by kernel_rfl) (by simp [Value.oneCell']) ?_
      intro wE XE OE
      have k0 := Lib.hid (OkX.off hA nil4_slices OE ⟨ms, H0.out, by have := HM.out.len; omega, HM.out.inW⟩)
      have k1 := Lib.hid (OkX.off hA nil4_slices OE H1.out)
      have k2 := Lib.hid (OkX.off hA nil4_slices OE H2.out)
      have k3 := Lib.hid (OkX.off hA nil4_slices OE H3.out)
      clear hHeld
      refine hK.out _ _ (HS.out _ XE.low) (fun _ => ?_)
      clear hK K
      try simp only [pA, pB, pC]
      refine tlA #[true, true, true, true, true, true, true, true, true, true, true, true] ?_
      refine wpAnyH_done (by kernel_rfl) ?_ _
      first | go_meet | (go_wp2_with fail; go_meet)
      exact ⟨_, _, _, _, _, rfl, XE, k0, k1, k2, k3⟩
    refine AllReadyH.cons (o := ⟨some 7, .alloc 30, 0, _, _, none⟩) rfl (fun K hK => ?_) (AllReadyH.nil)
    ·go_simp
     have hA : (waaa.alloc (.cells #[.slice none 0 0, .slice none 0 0, .slice none 0 0, .slice none 0 0] 30)).heap[waaa.heap.size]? = some (.cells ([.slice none 0 0, .slice none 0 0, .slice none 0 0, .slice none 0 0] : List Value).toArray 30 (0, 0)) := heap_alloc_new waaa _
     have gx : Grows waaa (waaa.alloc (.cells #[.slice none 0 0, .slice none 0 0, .slice none 0 0, .slice none 0 0] 30)) := (Below.refl _ waaa).alloc (Nat.le_refl _) _
     have hAw := GG.size
     generalize waaa.alloc (.cells #[.slice none 0 0, .slice none 0 0, .slice none 0 0, .slice none 0 0] 30) = waaaa at *
     generalize waaa.heap.size = A at *
     have G2 := GG.then gx
     have T0 := Lib.hid (H0.out.later gx)
     clear H0
     have H0 := T0
     clear T0
     have T1 := Lib.hid (H1.out.later gx)
     clear H1
     have H1 := T1
     clear T1
     have T2 := Lib.hid (H2.out.later gx)
     clear H2
     have H2 := T2
     clear T2
     clear GG
     have GG := G2
     clear G2 gx
     clear hHeld
     refine hK.out _ _ (HS.out _ GG) (fun hHeld => ?_)
     clear hK K
     try simp only [pA, pB, pC]
     refine tlA #[true, true, true, true, true, true, true, true, false, false, true, false] ?_
     refine trA [8] ?_
     refine AllReadyH.cons (o := ⟨some 27, .call { callee := .value (.func 12), args := #[.tmp 26], argTypes := #[23] }, 23, _, _, none⟩) rfl (fun K hK => ?_) (AllReadyH.nil)
     ·go_simp
      go_at_call 12
      refine (few_any (.slice ua un uc) cs _ (HU.out.later (GW.out.then GG)) HI.out).mono ?_
      rintro e waaaaa ⟨yy, ws1, rfl, rr, ll, ii, gx⟩
      have okx : OkX waaaaa yy := ⟨ws1, rr, by omega, ii⟩
      obtain ⟨y3, n3, z3, rfl⟩ := okx.form
      have H3 := Lib.hid okx
      clear rr okx ll ii
      go_wp2_with fail
      have hA2 := heap_grows gx hA
      clear hA
      have hA := hA2
      clear hA2
      have G2 := GG.then gx
      have T0 := Lib.hid (H0.out.later gx)
      clear H0
      have H0 := T0
      clear T0
      have T1 := Lib.hid (H1.out.later gx)
      clear H1
      have H1 := T1
      clear T1
      have T2 := Lib.hid (H2.out.later gx)
      clear H2
      have H2 := T2
      clear T2
      clear GG
      have GG := G2
      clear G2 gx
      clear hHeld
      refine hK.out _ _ (HS.out _ GG) (fun hHeld => ?_)
      clear hK K
      try simp only [pA, pB, pC]
      refine tlA #[true, true, true, true, true, true, true, true, true, false, true, false] ?_
      refine tbA [9] ?_
      refine tkA (.agg #[.slice ma mn mc, .slice y1 n1 z1, .slice y2 n2 z2, .slice y3 n3 z3]) (oi := ⟨some 28, .build 30 #[(0, .tmp 19), (1, .tmp 21), (2, .tmp 24), (3, .tmp 27)], 30, _, _, none⟩) ?_
      simp only [Act.put, pA, pB, pC]
      refine teA ?_
      refine tlA #[true, true, true, true, true, true, true, true, true, true, true, false] ?_
      refine trA [11] ?_
      refine AllReadyH.cons (o := ⟨none, .store 30 (.tmp 7) (.tmp 28), 0, _, _, none⟩) rfl (fun K hK => ?_) AllReadyH.nil
      have HAS := has_heap GG hA hAw
      refine held_store_has (vs := [.slice ma mn mc, .slice y1 n1 z1, .slice y2 n2 z2, .slice y3 n3 z3]) rfl rfl rfl rfl rfl HAS rfl (by kernel_rfl) (by simp [Value.oneCell']) ?_
      intro wE XE OE
      have k0 := Lib.hid (OkX.off hA nil4_slices OE ⟨ms, H0.out, by have := HM.out.len; omega, HM.out.inW⟩)
      have k1 := Lib.hid (OkX.off hA nil4_slices OE H1.out)
      have k2 := Lib.hid (OkX.off hA nil4_slices OE H2.out)
      have k3 := Lib.hid (OkX.off hA nil4_slices OE H3.out)
      clear hHeld
      refine hK.out _ _ (HS.out _ XE.low) (fun _ => ?_)
      clear hK K
      try simp only [pA, pB, pC]
      refine tlA #[true, true, true, true, true, true, true, true, true, true, true, true] ?_
      refine wpAnyH_done (by kernel_rfl) ?_ _
      first | go_meet | (go_wp2_with fail; go_meet)
      exact ⟨_, _, _, _, _, rfl, XE, k0, k1, k2, k3⟩
   refine AllReadyH.cons (o := ⟨some 7, .alloc 30, 0, _, _, none⟩) rfl (fun K hK => ?_) (AllReadyH.nil)
   ·go_simp
    have hA : (waa.alloc (.cells #[.slice none 0 0, .slice none 0 0, .slice none 0 0, .slice none 0 0] 30)).heap[waa.heap.size]? = some (.cells ([.slice none 0 0, .slice none 0 0, .slice none 0 0, .slice none 0 0] : List Value).toArray 30 (0, 0)) := heap_alloc_new waa _
    have gx : Grows waa (waa.alloc (.cells #[.slice none 0 0, .slice none 0 0, .slice none 0 0, .slice none 0 0] 30)) := (Below.refl _ waa).alloc (Nat.le_refl _) _
    have hAw := GG.size
    generalize waa.alloc (.cells #[.slice none 0 0, .slice none 0 0, .slice none 0 0, .slice none 0 0] 30) = waaa at *
    generalize waa.heap.size = A at *
    have G2 := GG.then gx
    have T0 := Lib.hid (H0.out.later gx)
    clear H0
    have H0 := T0
    clear T0
    have T1 := Lib.hid (H1.out.later gx)
    clear H1
    have H1 := T1
    clear T1
    clear GG
    have GG := G2
    clear G2 gx
    clear hHeld
    refine hK.out _ _ (HS.out _ GG) (fun hHeld => ?_)
    clear hK K
    try simp only [pA, pB, pC]
    refine tlA #[true, true, true, true, true, false, true, true, false, false, true, false] ?_
    refine trA [5] ?_
    refine AllReadyH.cons (o := ⟨some 24, .call { callee := .value (.func 11), args := #[.tmp 22, .tmp 23], argTypes := #[23, 25] }, 23, _, _, none⟩) rfl (fun K hK => ?_) (AllReadyH.nil)
    ·go_simp
     go_at_call 11
     refine (changed_any (.slice ma mn mc) (.slice ua un uc) ms _ H0.out HM.out.inW (by have := HM.out.len; omega) (fun t ht => by have := (HM.out.at' t ht).2.2.1; omega) ⟨_, _, _, rfl⟩ ca cb ha cn HNN.out).mono ?_
     rintro e waaaa ⟨yy, ws1, rfl, rr, ll, ii, gx⟩
     have okx : OkX waaaa yy := ⟨ws1, rr, ll, ii⟩
     obtain ⟨y2, n2, z2, rfl⟩ := okx.form
     have H2 := Lib.hid okx
     clear rr okx ll ii
     go_wp2_with fail
     have hA2 := heap_grows gx hA
     clear hA
     have hA := hA2
     clear hA2
     have G2 := GG.then gx
     have T0 := Lib.hid (H0.out.later gx)
     clear H0
     have H0 := T0
     clear T0
     have T1 := Lib.hid (H1.out.later gx)
     clear H1
     have H1 := T1
     clear T1
     clear GG
     have GG := G2
     clear G2 gx
     clear hHeld
     refine hK.out _ _ (HS.out _ GG) (fun hHeld => ?_)
     clear hK K
     try simp only [pA, pB, pC]
     refine tlA #[true, true, true, true, true, true, true, true, false, false, true, false] ?_
     refine trA [8] ?_
     refine AllReadyH.cons (o := ⟨some 27, .call { callee := .value (.func 12), args := #[.tmp 26], argTypes := #[23] }, 23, _, _, none⟩) rfl (fun K hK => ?_) (AllReadyH.nil)
     ·go_simp
      go_at_call 12
      refine (few_any (.slice ua un uc) cs _ (HU.out.later (GW.out.then GG)) HI.out).mono ?_
      rintro e waaaaa ⟨yy, ws1, rfl, rr, ll, ii, gx⟩
      have okx : OkX waaaaa yy := ⟨ws1, rr, by omega, ii⟩
      obtain ⟨y3, n3, z3, rfl⟩ := okx.form
      have H3 := Lib.hid okx
      clear rr okx ll ii
      go_wp2_with fail
      have hA2 := heap_grows gx hA
      clear hA
      have hA := hA2
      clear hA2
      have G2 := GG.then gx
      have T0 := Lib.hid (H0.out.later gx)
      clear H0
      have H0 := T0
      clear T0
      have T1 := Lib.hid (H1.out.later gx)
      clear H1
      have H1 := T1
      clear T1
      have T2 := Lib.hid (H2.out.later gx)
      clear H2
      have H2 := T2
      clear T2
      clear GG
      have GG := G2
      clear G2 gx
      clear hHeld
      refine hK.out _ _ (HS.out _ GG) (fun hHeld => ?_)
      clear hK K
      try simp only [pA, pB, pC]
      refine tlA #[true, true, true, true, true, true, true, true, true, false, true, false] ?_
      refine tbA [9] ?_
      refine tkA (.agg #[.slice ma mn mc, .slice y1 n1 z1, .slice y2 n2 z2, .slice y3 n3 z3]) (oi := ⟨some 28, .build 30 #[(0, .tmp 19), (1, .tmp 21), (2, .tmp 24), (3, .tmp 27)], 30, _, _, none⟩) ?_
      simp only [Act.put, pA, pB, pC]
      refine teA ?_
      refine tlA #[true, true, true, true, true, true, true, true, true, true, true, false] ?_
      refine trA [11] ?_
      refine AllReadyH.cons (o := ⟨none, .store 30 (.tmp 7) (.tmp 28), 0, _, _, none⟩) rfl (fun K hK => ?_) AllReadyH.nil
      have HAS := has_heap GG hA hAw
      refine held_store_has (vs := [.slice ma mn mc, .slice y1 n1 z1, .slice y2 n2 z2, .slice y3 n3 z3]) rfl rfl rfl rfl rfl HAS rfl (by kernel_rfl) (by simp [Value.oneCell']) ?_
      intro wE XE OE
      have k0 := Lib.hid (OkX.off hA nil4_slices OE ⟨ms, H0.out, by have := HM.out.len; omega, HM.out.inW⟩)
      have k1 := Lib.hid (OkX.off hA nil4_slices OE H1.out)
      have k2 := Lib.hid (OkX.off hA nil4_slices OE H2.out)
      have k3 := Lib.hid (OkX.off hA nil4_slices OE H3.out)
      clear hHeld
      refine hK.out _ _ (HS.out _ XE.low) (fun _ => ?_)
      clear hK K
      try simp only [pA, pB, pC]
      refine tlA #[true, true, true, true, true, true, true, true, true, true, true, true] ?_
      refine wpAnyH_done (by kernel_rfl) ?_ _
      first | go_meet | (go_wp2_with fail; go_meet)
      exact ⟨_, _, _, _, _, rfl, XE, k0, k1, k2, k3⟩
  refine AllReadyH.cons (o := ⟨some 7, .alloc 30, 0, _, _, none⟩) rfl (fun K hK => ?_) (AllReadyH.nil)
  ·go_simp
   have hA : (wa.alloc (.cells #[.slice none 0 0, .slice none 0 0, .slice none 0 0, .slice none 0 0] 30)).heap[wa.heap.size]? = some (.cells ([.slice none 0 0, .slice none 0 0, .slice none 0 0, .slice none 0 0] : List Value).toArray 30 (0, 0)) := heap_alloc_new wa _
   have gx : Grows wa (wa.alloc (.cells #[.slice none 0 0, .slice none 0 0, .slice none 0 0, .slice none 0 0] 30)) := (Below.refl _ wa).alloc (Nat.le_refl _) _
   have hAw := GG.size
   generalize wa.alloc (.cells #[.slice none 0 0, .slice none 0 0, .slice none 0 0, .slice none 0 0] 30) = waa at *
   generalize wa.heap.size = A at *
   have G2 := GG.then gx
   have T0 := Lib.hid (H0.out.later gx)
   clear H0
   have H0 := T0
   clear T0
   clear GG
   have GG := G2
   clear G2 gx
   clear hHeld
   refine hK.out _ _ (HS.out _ GG) (fun hHeld => ?_)
   clear hK K
   try simp only [pA, pB, pC]
   refine tlA #[true, true, false, true, true, false, true, true, false, false, true, false] ?_
   refine trA [2] ?_
   refine AllReadyH.cons (o := ⟨some 21, .call { callee := .value (.func 10), args := #[.tmp 20], argTypes := #[22] }, 23, _, _, none⟩) rfl (fun K hK => ?_) (AllReadyH.nil)
   ·go_simp
    go_at_call 10
    refine (G.fine_any v xs _ (HX.out.later (GW.out.then GG))).mono ?_
    rintro e waaa ⟨yy, ws1, rfl, rr, -, ff, gx⟩
    have okx : OkX waaa yy := ⟨ws1, rr, by have := ff.len; omega, fnw_inW ff⟩
    obtain ⟨y1, n1, z1, rfl⟩ := okx.form
    have H1 := Lib.hid okx
    clear rr okx ff
    go_wp2_with fail
    have hA2 := heap_grows gx hA
    clear hA
    have hA := hA2
    clear hA2
    have G2 := GG.then gx
    have T0 := Lib.hid (H0.out.later gx)
    clear H0
    have H0 := T0
    clear T0
    clear GG
    have GG := G2
    clear G2 gx
    clear hHeld
    refine hK.out _ _ (HS.out _ GG) (fun hHeld => ?_)
    clear hK K
    try simp only [pA, pB, pC]
    refine tlA #[true, true, true, true, true, false, true, true, false, false, true, false] ?_
    refine trA [5] ?_
    refine AllReadyH.cons (o := ⟨some 24, .call { callee := .value (.func 11), args := #[.tmp 22, .tmp 23], argTypes := #[23, 25] }, 23, _, _, none⟩) rfl (fun K hK => ?_) (AllReadyH.nil)
    ·go_simp
     go_at_call 11
     refine (changed_any (.slice ma mn mc) (.slice ua un uc) ms _ H0.out HM.out.inW (by have := HM.out.len; omega) (fun t ht => by have := (HM.out.at' t ht).2.2.1; omega) ⟨_, _, _, rfl⟩ ca cb ha cn HNN.out).mono ?_
     rintro e waaaa ⟨yy, ws1, rfl, rr, ll, ii, gx⟩
     have okx : OkX waaaa yy := ⟨ws1, rr, ll, ii⟩
     obtain ⟨y2, n2, z2, rfl⟩ := okx.form
     have H2 := Lib.hid okx
     clear rr okx ll ii
     go_wp2_with fail
     have hA2 := heap_grows gx hA
     clear hA
     have hA := hA2
     clear hA2
     have G2 := GG.then gx
     have T0 := Lib.hid (H0.out.later gx)
     clear H0
     have H0 := T0
     clear T0
     have T1 := Lib.hid (H1.out.later gx)
     clear H1
     have H1 := T1
     clear T1
     clear GG
     have GG := G2
     clear G2 gx
     clear hHeld
     refine hK.out _ _ (HS.out _ GG) (fun hHeld => ?_)
     clear hK K
     try simp only [pA, pB, pC]
     refine tlA #[true, true, true, true, true, true, true, true, false, false, true, false] ?_
     refine trA [8] ?_
     refine AllReadyH.cons (o := ⟨some 27, .call { callee := .value (.func 12), args := #[.tmp 26], argTypes := #[23] }, 23, _, _, none⟩) rfl (fun K hK => ?_) (AllReadyH.nil)
     ·go_simp
      go_at_call 12
      refine (few_any (.slice ua un uc) cs _ (HU.out.later (GW.out.then GG)) HI.out).mono ?_
      rintro e waaaaa ⟨yy, ws1, rfl, rr, ll, ii, gx⟩
      have okx : OkX waaaaa yy := ⟨ws1, rr, by omega, ii⟩
      obtain ⟨y3, n3, z3, rfl⟩ := okx.form
      have H3 := Lib.hid okx
      clear rr okx ll ii
      go_wp2_with fail
      have hA2 := heap_grows gx hA
      clear hA
      have hA := hA2
      clear hA2
      have G2 := GG.then gx
      have T0 := Lib.hid (H0.out.later gx)
      clear H0
      have H0 := T0
      clear T0
      have T1 := Lib.hid (H1.out.later gx)
      clear H1
      have H1 := T1
      clear T1
      have T2 := Lib.hid (H2.out.later gx)
      clear H2
      have H2 := T2
      clear T2
      clear GG
      have GG := G2
      clear G2 gx
      clear hHeld
      refine hK.out _ _ (HS.out _ GG) (fun hHeld => ?_)
      clear hK K
      try simp only [pA, pB, pC]
      refine tlA #[true, true, true, true, true, true, true, true, true, false, true, false] ?_
      refine tbA [9] ?_
      refine tkA (.agg #[.slice ma mn mc, .slice y1 n1 z1, .slice y2 n2 z2, .slice y3 n3 z3]) (oi := ⟨some 28, .build 30 #[(0, .tmp 19), (1, .tmp 21), (2, .tmp 24), (3, .tmp 27)], 30, _, _, none⟩) ?_
      simp only [Act.put, pA, pB, pC]
      refine teA ?_
      refine tlA #[true, true, true, true, true, true, true, true, true, true, true, false] ?_
      refine trA [11] ?_
      refine AllReadyH.cons (o := ⟨none, .store 30 (.tmp 7) (.tmp 28), 0, _, _, none⟩) rfl (fun K hK => ?_) AllReadyH.nil
      have HAS := has_heap GG hA hAw
      refine held_store_has (vs := [.slice ma mn mc, .slice y1 n1 z1, .slice y2 n2 z2, .slice y3 n3 z3]) rfl rfl rfl rfl rfl HAS rfl (by kernel_rfl) (by simp [Value.oneCell']) ?_
      intro wE XE OE
      have k0 := Lib.hid (OkX.off hA nil4_slices OE ⟨ms, H0.out, by have := HM.out.len; omega, HM.out.inW⟩)
      have k1 := Lib.hid (OkX.off hA nil4_slices OE H1.out)
      have k2 := Lib.hid (OkX.off hA nil4_slices OE H2.out)
      have k3 := Lib.hid (OkX.off hA nil4_slices OE H3.out)
      clear hHeld
      refine hK.out _ _ (HS.out _ XE.low) (fun _ => ?_)
      clear hK K
      try simp only [pA, pB, pC]
      refine tlA #[true, true, true, true, true, true, true, true, true, true, true, true] ?_
      refine wpAnyH_done (by kernel_rfl) ?_ _
      first | go_meet | (go_wp2_with fail; go_meet)
      exact ⟨_, _, _, _, _, rfl, XE, k0, k1, k2, k3⟩
 case rest =>
  clear R0 HM C2
  obtain ⟨A, x0, x1, x2, x3, rfl, HA, K0, K1, K2, K3⟩ := hcut
  rename World => wE
  have GE := Lib.hid (show Grows w wE from GW.out.then HA.low)
  have HA := Lib.hid HA
  have HT := Lib.hid (fun (k : Nat) (hk : k < 4) => show ∃ x, ([x0, x1, x2, x3] : List Value)[k]? = some x ∧ OkX wE x by
   rcases k with _ | _ | _ | _ | k
   ·exact ⟨x0, rfl, K0.out⟩
   ·exact ⟨x1, rfl, K1.out⟩
   ·exact ⟨x2, rfl, K2.out⟩
   ·exact ⟨x3, rfl, K3.out⟩
   ·omega)
  clear K0 K1 K2 K3
  go_wp2_with fail
  go_loopw [8] (fun i W => ∃ k : Nat, k ≤ 4 ∧ i = .int .i64 k ∧ Hid (Grows wE W)) (fun i _ => 4 - (RowKit.intOf i).toNat)
  case atStart => exact ⟨0, Nat.zero_le _, rfl, Lib.hid (Below.refl _ _)⟩
  case round =>
   obtain ⟨k, hk, rfl, G0⟩ := hrel
   generalize wr = W0 at *
   by_cases hk4 : k < 4
   ·have b1 : (k : Int) < 4 := by omega
    have b2 : (0 : Int) ≤ k := by omega
    obtain ⟨x, hx, hok⟩ := HT.out k hk4
    obtain ⟨ws, RX, hl, hi⟩ := hok
    obtain ⟨xa, xn, xc, rfl, hxn, -, -, RX⟩ := RX.form
    have c0 := (HA.out.later G0.out).fact (.head _) (i := k) hx
    have HXN := Lib.hid hxn
    have HW := Lib.hid (RX.later G0.out)
    have HIN := Lib.hid hi
    have HL := Lib.hid hl
    obtain ⟨ck, hck⟩ : ∃ ck, checkN ws = ck := ⟨_, rfl⟩
    have HC1 := Lib.hid (checkn_is (.slice xa xn xc) ws ck hck W0 HW.out)
    have HC2 := Lib.hid (fun (W : World) (g : Grows W0 W) => (show Calls Tryz.prog 14 #[.slice xa xn xc] W (fun e w' => e = .returned (.int .i64 ck) ∧ Below W.heap.size W w') from hck ▸ rchk14_any (.slice xa xn xc) ws W (HW.out.later g)))
    clear hx hxn hi hl hck RX
    go_wp2_with fail
    refine HC1.out.mono ?_
    rintro e W1 ⟨rfl, g1⟩
    have G1 := Lib.hid (show Grows W0 W1 from g1)
    clear g1 HC1 c0
    go_wp2_with fail
    refine (HC2.out W1 G1.out).mono ?_
    rintro e W2 ⟨rfl, g2⟩
    have G2 := Lib.hid (G1.out.then g2)
    clear g2 G1 HC2
    go_wp2_with fail
    refine (groups_any (fun t ht => (HIN.out t ht).wk) (.slice xa xn xc) W2 (HW.out.later G2.out) (by have := HL.out; omega)).mono ?_
    rintro e W3 ⟨vg, rfl, og, g3⟩
    have G3 := Lib.hid (G2.out.then g3)
    have HG3 := Lib.hid og.row
    clear g3 G2 og
    go_wp2_with fail
    refine (rgroups_any (.slice xa xn xc) ws W3 (HW.out.later G3.out) (by have := HL.out; omega)).mono ?_
    rintro e W4 ⟨vh, rfl, oh, g4⟩
    have G4 := Lib.hid (G3.out.then g4)
    have HG4 := Lib.hid (HG3.out.later g4)
    have HH4 := Lib.hid oh
    clear g4 G3 oh HG3
    go_wp2_with fail
    refine (samegroups_any vg vh (grpW ws) W4 HG4.out HH4.out).mono ?_
    rintro e W5 ⟨rfl, g5⟩
    have G5 := Lib.hid (G4.out.then g5)
    clear g5 G4 HG4 HH4
    go_wp2_with fail
    go_loopw [10] (fun i W => ∃ q : Nat, q ≤ xn ∧ q ≤ 8 ∧ i = .int .i64 q ∧ Hid (Grows W0 W)) (fun i _ => 8 - (RowKit.intOf i).toNat)
    case atStart => exact ⟨0, Nat.zero_le _, Nat.zero_le _, rfl, G5⟩
    case round =>
     clear G5
     obtain ⟨q, hq, hq8, rfl, G6⟩ := hrel
     generalize wr = W6 at *
     by_cases hqn : q < xn ∧ q < 8
     ·obtain ⟨hqn, hq9⟩ := hqn
      have b3 : (q : Int) < xn := by omega
      have b4 : (q : Int) < 8 := by omega
      have b5 : (0 : Int) ≤ q := by omega
      obtain ⟨bb, oo, rfl, hcell⟩ := HW.out.spot (by rw [HXN.out]; omega)
      obtain ⟨ti, hti⟩ : ∃ t, ws[q]? = some t := ⟨_, List.getElem?_eq_getElem (by rw [HXN.out]; omega)⟩
      obtain ⟨ui, ri, ai⟩ := hcell q ti hti
      have RI := Lib.hid ri
      have HAI := Lib.hid ai
      have HCELL := Lib.hid hcell
      clear hti ri ai hcell
      obtain ⟨⟨p0, p1, p2⟩, hp⟩ : ∃ z, fstK ti = z := ⟨_, rfl⟩
      obtain ⟨⟨q0, q1, q2⟩, hqq⟩ : ∃ z, lstK ti = z := ⟨_, rfl⟩
      have HP := Lib.hid hp
      have HQ := Lib.hid hqq
      clear hp hqq
      have SA := Lib.hid (fun (W : World) (gg : Grows W0 W) => (show Calls Tryz.prog 18 #[wv ti ui] W (fun e w' => e = .returned (.tuple #[.agg #[.int .i64 p0, .int .i64 p1, .int .i64 p2], .agg #[.int .i64 q0, .int .i64 q1, .int .i64 q2]]) ∧ Below W.heap.size W w') from stops_at ti ui p0 p1 p2 q0 q1 q2 HP.out HQ.out W (RI.out.later gg)))
      unfold wv at SA
      have SB := Lib.hid (fun (W : World) (gg : Grows W0 W) => (show Calls Tryz.prog 19 #[wv ti ui] W (fun e w' => e = .returned (.tuple #[.agg #[.int .i64 p0, .int .i64 p1, .int .i64 p2], .agg #[.int .i64 q0, .int .i64 q1, .int .i64 q2]]) ∧ Below W.heap.size W w') from rstops_at ti ui p0 p1 p2 q0 q1 q2 HP.out HQ.out W (RI.out.later gg)))
      unfold wv at SB
      obtain ⟨a0, a1, a2, a3, a4, a5, a6, a7⟩ := (show W6.cell? ⟨bb, oo + q * 8, none⟩ = some (.int .i64 ti.id) ∧ W6.cell? ⟨bb, oo + q * 8 + 1, none⟩ = some (ui) ∧ W6.cell? ⟨bb, oo + q * 8 + 2, none⟩ = some (.int .i64 ti.lv) ∧ W6.cell? ⟨bb, oo + q * 8 + 3, none⟩ = some (.string ti.cl) ∧ W6.cell? ⟨bb, oo + q * 8 + 4, none⟩ = some (.string ti.nm) ∧ W6.cell? ⟨bb, oo + q * 8 + 5, none⟩ = some (.bool ti.st) ∧ W6.cell? ⟨bb, oo + q * 8 + 6, none⟩ = some (.int .i64 ti.wt) ∧ W6.cell? ⟨bb, oo + q * 8 + 7, none⟩ = some (.int .i64 ti.ds) from ⟨(G6.out.cell (World.block_lt_of_cell? W0 _ HAI.out.1)).trans HAI.out.1, (G6.out.cell (World.block_lt_of_cell? W0 _ HAI.out.2.1)).trans HAI.out.2.1, (G6.out.cell (World.block_lt_of_cell? W0 _ HAI.out.2.2.1)).trans HAI.out.2.2.1, (G6.out.cell (World.block_lt_of_cell? W0 _ HAI.out.2.2.2.1)).trans HAI.out.2.2.2.1, (G6.out.cell (World.block_lt_of_cell? W0 _ HAI.out.2.2.2.2.1)).trans HAI.out.2.2.2.2.1, (G6.out.cell (World.block_lt_of_cell? W0 _ HAI.out.2.2.2.2.2.1)).trans HAI.out.2.2.2.2.2.1, (G6.out.cell (World.block_lt_of_cell? W0 _ HAI.out.2.2.2.2.2.2.1)).trans HAI.out.2.2.2.2.2.2.1, (G6.out.cell (World.block_lt_of_cell? W0 _ HAI.out.2.2.2.2.2.2.2)).trans HAI.out.2.2.2.2.2.2.2⟩)
      go_wp2_with fail
      refine (SA.out W6 G6.out).mono ?_
      rintro e W7 ⟨rfl, g7⟩
      have G7 := G6.out.then g7
      clear a0 a1 a2 a3 a4 a5 a6 a7 g7 SA
      have X7 := ((Has.nil (Below.refl W7.heap.size W7)).push [.int .i64 0, .int .i64 0, .int .i64 0] 39).push [.int .i64 0, .int .i64 0, .int .i64 0] 39
      simp only [size_alloc] at X7
      go_wp2_with (refine wpList_store_has (vs := [.int .i64 p0, .int .i64 p1, .int .i64 p2]) rfl rfl rfl ?_ ?_ X7.swap rfl (by kernel_rfl) (by simp [Value.oneCell']) ?_)
      all_goals try rfl
      rintro W8 X8 -
      go_wp2_with (refine wpList_store_has (vs := [.int .i64 q0, .int .i64 q1, .int .i64 q2]) rfl rfl rfl ?_ ?_ X8.swap rfl (by kernel_rfl) (by simp [Value.oneCell']) ?_)
      all_goals try rfl
      rintro W9 X9 -
      have G9 := G7.then X9.low
      obtain ⟨M, hM⟩ : ∃ M, W7.heap.size = M := ⟨_, rfl⟩
      rw [hM] at X9
      simp only [hM]
      clear X7 X8 G7 hM
      obtain ⟨a0, a1, a2, a3, a4, a5, a6, a7⟩ := (show W9.cell? ⟨bb, oo + q * 8, none⟩ = some (.int .i64 ti.id) ∧ W9.cell? ⟨bb, oo + q * 8 + 1, none⟩ = some (ui) ∧ W9.cell? ⟨bb, oo + q * 8 + 2, none⟩ = some (.int .i64 ti.lv) ∧ W9.cell? ⟨bb, oo + q * 8 + 3, none⟩ = some (.string ti.cl) ∧ W9.cell? ⟨bb, oo + q * 8 + 4, none⟩ = some (.string ti.nm) ∧ W9.cell? ⟨bb, oo + q * 8 + 5, none⟩ = some (.bool ti.st) ∧ W9.cell? ⟨bb, oo + q * 8 + 6, none⟩ = some (.int .i64 ti.wt) ∧ W9.cell? ⟨bb, oo + q * 8 + 7, none⟩ = some (.int .i64 ti.ds) from ⟨(G9.cell (World.block_lt_of_cell? W0 _ HAI.out.1)).trans HAI.out.1, (G9.cell (World.block_lt_of_cell? W0 _ HAI.out.2.1)).trans HAI.out.2.1, (G9.cell (World.block_lt_of_cell? W0 _ HAI.out.2.2.1)).trans HAI.out.2.2.1, (G9.cell (World.block_lt_of_cell? W0 _ HAI.out.2.2.2.1)).trans HAI.out.2.2.2.1, (G9.cell (World.block_lt_of_cell? W0 _ HAI.out.2.2.2.2.1)).trans HAI.out.2.2.2.2.1, (G9.cell (World.block_lt_of_cell? W0 _ HAI.out.2.2.2.2.2.1)).trans HAI.out.2.2.2.2.2.1, (G9.cell (World.block_lt_of_cell? W0 _ HAI.out.2.2.2.2.2.2.1)).trans HAI.out.2.2.2.2.2.2.1, (G9.cell (World.block_lt_of_cell? W0 _ HAI.out.2.2.2.2.2.2.2)).trans HAI.out.2.2.2.2.2.2.2⟩)
      go_wp2_with fail
      refine (SB.out W9 G9).mono ?_
      rintro e V0 ⟨rfl, g7⟩
      have G10 := G9.then g7
      have X10 := X9.later g7
      clear a0 a1 a2 a3 a4 a5 a6 a7 g7 SB X9 G9
      have Z7 := ((Has.nil (Below.refl V0.heap.size V0)).push [.int .i64 0, .int .i64 0, .int .i64 0] 39).push [.int .i64 0, .int .i64 0, .int .i64 0] 39
      simp only [size_alloc] at Z7
      go_wp2_with (refine wpList_store_has (vs := [.int .i64 p0, .int .i64 p1, .int .i64 p2]) rfl rfl rfl ?_ ?_ Z7.swap rfl (by kernel_rfl) (by simp [Value.oneCell']) ?_)
      all_goals try rfl
      rintro V1 Z8 -
      go_wp2_with (refine wpList_store_has (vs := [.int .i64 q0, .int .i64 q1, .int .i64 q2]) rfl rfl rfl ?_ ?_ Z8.swap rfl (by kernel_rfl) (by simp [Value.oneCell']) ?_)
      all_goals try rfl
      rintro V2 Z9 -
      have G11 := Lib.hid (G10.then Z9.low)
      have X11 := X10.later Z9.low
      have d0 := X11.fact (.head _) (i := 0) rfl
      have d1 := X11.fact (.head _) (i := 1) rfl
      have d2 := X11.fact (.head _) (i := 2) rfl
      have d3 := X11.tail.fact (.head _) (i := 0) rfl
      have d4 := X11.tail.fact (.head _) (i := 1) rfl
      have d5 := X11.tail.fact (.head _) (i := 2) rfl
      have e0 := Z9.fact (.head _) (i := 0) rfl
      have e1 := Z9.fact (.head _) (i := 1) rfl
      have e2 := Z9.fact (.head _) (i := 2) rfl
      have e3 := Z9.tail.fact (.head _) (i := 0) rfl
      have e4 := Z9.tail.fact (.head _) (i := 1) rfl
      have e5 := Z9.tail.fact (.head _) (i := 2) rfl
      clear Z7 Z8 Z9 X10 X11 G10
      go_wp2_with fail
      clear d0 d1 d2 d3 d4 d5 e0 e1 e2 e3 e4 e5
      go_loopw [15] (fun i W => ∃ z : Nat, z ≤ xn ∧ z ≤ 8 ∧ i = .int .i64 z ∧ Hid (Grows W0 W)) (fun i _ => 8 - (RowKit.intOf i).toNat)
      case atStart => exact ⟨0, Nat.zero_le _, Nat.zero_le _, rfl, G11⟩
      case round =>
       clear G11
       obtain ⟨z, hz, hz8, rfl, G12⟩ := hrel
       generalize wr = V3 at *
       by_cases hzn : z < xn ∧ z < 8
       ·obtain ⟨hzn, hz9⟩ := hzn
        have b6 : (z : Int) < xn := by omega
        have b7 : (z : Int) < 8 := by omega
        have b8 : (0 : Int) ≤ z := by omega
        obtain ⟨tk, htk⟩ : ∃ t, ws[z]? = some t := ⟨_, List.getElem?_eq_getElem (by rw [HXN.out]; omega)⟩
        obtain ⟨uk, rk, bk⟩ := HCELL.out z tk htk
        have RK := Lib.hid rk
        have HBK := Lib.hid bk
        obtain ⟨jb, hjb⟩ : ∃ jb, joinP ti tk = jb := ⟨_, rfl⟩
        obtain ⟨cr, hcr⟩ : ∃ cr, crossW ti tk = cr := ⟨_, rfl⟩
        have HJ := Lib.hid hjb
        have HCR := Lib.hid hcr
        clear htk rk bk hjb hcr
        have HS2 := Lib.hid (show ∀ wx, Grows W0 wx → (wx.cell? ⟨bb, oo + q * 8, none⟩ = some (.int .i64 ti.id) ∧ wx.cell? ⟨bb, oo + q * 8 + 1, none⟩ = some (ui) ∧ wx.cell? ⟨bb, oo + q * 8 + 2, none⟩ = some (.int .i64 ti.lv) ∧ wx.cell? ⟨bb, oo + q * 8 + 3, none⟩ = some (.string ti.cl) ∧ wx.cell? ⟨bb, oo + q * 8 + 4, none⟩ = some (.string ti.nm) ∧ wx.cell? ⟨bb, oo + q * 8 + 5, none⟩ = some (.bool ti.st) ∧ wx.cell? ⟨bb, oo + q * 8 + 6, none⟩ = some (.int .i64 ti.wt) ∧ wx.cell? ⟨bb, oo + q * 8 + 7, none⟩ = some (.int .i64 ti.ds) ∧ wx.cell? ⟨bb, oo + z * 8, none⟩ = some (.int .i64 tk.id) ∧ wx.cell? ⟨bb, oo + z * 8 + 1, none⟩ = some (uk) ∧ wx.cell? ⟨bb, oo + z * 8 + 2, none⟩ = some (.int .i64 tk.lv) ∧ wx.cell? ⟨bb, oo + z * 8 + 3, none⟩ = some (.string tk.cl) ∧ wx.cell? ⟨bb, oo + z * 8 + 4, none⟩ = some (.string tk.nm) ∧ wx.cell? ⟨bb, oo + z * 8 + 5, none⟩ = some (.bool tk.st) ∧ wx.cell? ⟨bb, oo + z * 8 + 6, none⟩ = some (.int .i64 tk.wt) ∧ wx.cell? ⟨bb, oo + z * 8 + 7, none⟩ = some (.int .i64 tk.ds)) ∧ Grows W0 wx from fun wx g => ⟨⟨(g.cell (World.block_lt_of_cell? W0 _ HAI.out.1)).trans HAI.out.1, (g.cell (World.block_lt_of_cell? W0 _ HAI.out.2.1)).trans HAI.out.2.1, (g.cell (World.block_lt_of_cell? W0 _ HAI.out.2.2.1)).trans HAI.out.2.2.1, (g.cell (World.block_lt_of_cell? W0 _ HAI.out.2.2.2.1)).trans HAI.out.2.2.2.1, (g.cell (World.block_lt_of_cell? W0 _ HAI.out.2.2.2.2.1)).trans HAI.out.2.2.2.2.1, (g.cell (World.block_lt_of_cell? W0 _ HAI.out.2.2.2.2.2.1)).trans HAI.out.2.2.2.2.2.1, (g.cell (World.block_lt_of_cell? W0 _ HAI.out.2.2.2.2.2.2.1)).trans HAI.out.2.2.2.2.2.2.1, (g.cell (World.block_lt_of_cell? W0 _ HAI.out.2.2.2.2.2.2.2)).trans HAI.out.2.2.2.2.2.2.2, (g.cell (World.block_lt_of_cell? W0 _ HBK.out.1)).trans HBK.out.1, (g.cell (World.block_lt_of_cell? W0 _ HBK.out.2.1)).trans HBK.out.2.1, (g.cell (World.block_lt_of_cell? W0 _ HBK.out.2.2.1)).trans HBK.out.2.2.1, (g.cell (World.block_lt_of_cell? W0 _ HBK.out.2.2.2.1)).trans HBK.out.2.2.2.1, (g.cell (World.block_lt_of_cell? W0 _ HBK.out.2.2.2.2.1)).trans HBK.out.2.2.2.2.1, (g.cell (World.block_lt_of_cell? W0 _ HBK.out.2.2.2.2.2.1)).trans HBK.out.2.2.2.2.2.1, (g.cell (World.block_lt_of_cell? W0 _ HBK.out.2.2.2.2.2.2.1)).trans HBK.out.2.2.2.2.2.2.1, (g.cell (World.block_lt_of_cell? W0 _ HBK.out.2.2.2.2.2.2.2)).trans HBK.out.2.2.2.2.2.2.2⟩, g⟩)
        go_upto_region 20 with fail
        refine wp_region_held_drew (S := (fun wx => (wx.cell? ⟨bb, oo + q * 8, none⟩ = some (.int .i64 ti.id) ∧ wx.cell? ⟨bb, oo + q * 8 + 1, none⟩ = some (ui) ∧ wx.cell? ⟨bb, oo + q * 8 + 2, none⟩ = some (.int .i64 ti.lv) ∧ wx.cell? ⟨bb, oo + q * 8 + 3, none⟩ = some (.string ti.cl) ∧ wx.cell? ⟨bb, oo + q * 8 + 4, none⟩ = some (.string ti.nm) ∧ wx.cell? ⟨bb, oo + q * 8 + 5, none⟩ = some (.bool ti.st) ∧ wx.cell? ⟨bb, oo + q * 8 + 6, none⟩ = some (.int .i64 ti.wt) ∧ wx.cell? ⟨bb, oo + q * 8 + 7, none⟩ = some (.int .i64 ti.ds) ∧ wx.cell? ⟨bb, oo + z * 8, none⟩ = some (.int .i64 tk.id) ∧ wx.cell? ⟨bb, oo + z * 8 + 1, none⟩ = some (uk) ∧ wx.cell? ⟨bb, oo + z * 8 + 2, none⟩ = some (.int .i64 tk.lv) ∧ wx.cell? ⟨bb, oo + z * 8 + 3, none⟩ = some (.string tk.cl) ∧ wx.cell? ⟨bb, oo + z * 8 + 4, none⟩ = some (.string tk.nm) ∧ wx.cell? ⟨bb, oo + z * 8 + 5, none⟩ = some (.bool tk.st) ∧ wx.cell? ⟨bb, oo + z * 8 + 6, none⟩ = some (.int .i64 tk.wt) ∧ wx.cell? ⟨bb, oo + z * 8 + 7, none⟩ = some (.int .i64 tk.ds)) ∧ Grows W0 wx)) (by kernel_rfl) (HS2.out _ (G12.out.then ((Below.refl _ V3).drew))) (fun hHeld => ?_)
        have J0 : Grows W0 V3.drew := G12.out.then ((Below.refl _ V3).drew)
        generalize V3.drew = Y0 at *
        refine tbA [0, 1, 2, 3, 4, 5] ?_
        refine tkA (.slice (some ⟨bb, oo, none⟩) xn xc) (oi := ⟨some 93, .move (.tmp 9), 23, _, _, none⟩) ?_
        simp only [Act.put, pA, pB, pC]
        refine tkA (.int .i64 q) (oi := ⟨some 94, .move (.tmp 10), 3, _, _, none⟩) ?_
        simp only [Act.put, pA, pB, pC]
        refine tkA (.pointer (some ⟨bb, oo + q * 8, none⟩)) (oi := ⟨some 95, .indexAddr 23 (.tmp 93) (.tmp 94), 0, _, _, none⟩) ?_
        simp only [Act.put, pA, pB, pC]
        refine tkA (.agg #[.int .i64 ti.id, ui, .int .i64 ti.lv, .string ti.cl, .string ti.nm, .bool ti.st, .int .i64 ti.wt, .int .i64 ti.ds]) (oi := ⟨some 96, .load 44 (.tmp 95), 44, _, _, none⟩) ?_
        simp only [Act.put, pA, pB, pC]
        refine tkA (.slice (some ⟨bb, oo, none⟩) xn xc) (oi := ⟨some 97, .move (.tmp 9), 23, _, _, none⟩) ?_
        simp only [Act.put, pA, pB, pC]
        refine tkA (.int .i64 z) (oi := ⟨some 98, .move (.tmp 15), 3, _, _, none⟩) ?_
        simp only [Act.put, pA, pB, pC]
        refine teA ?_
        refine tlA #[true, true, true, true, true, true, false, false, false, false, false, false, false, false, false, false, false, false, false, false, false, false, false, false, false, false, false, false, false, false, false, false, false, false, false, false, false, false, false, false] ?_
        refine tbA [6, 7, 9, 10, 11, 12] ?_
        refine tkA (.pointer (some ⟨bb, oo + z * 8, none⟩)) (oi := ⟨some 99, .indexAddr 23 (.tmp 97) (.tmp 98), 0, _, _, none⟩) ?_
        simp only [Act.put, pA, pB, pC]
        refine tkA (.agg #[.int .i64 tk.id, uk, .int .i64 tk.lv, .string tk.cl, .string tk.nm, .bool tk.st, .int .i64 tk.wt, .int .i64 tk.ds]) (oi := ⟨some 100, .load 44 (.tmp 99), 44, _, _, none⟩) ?_
        simp only [Act.put, pA, pB, pC]
        refine tkA (.slice (some ⟨bb, oo, none⟩) xn xc) (oi := ⟨some 102, .move (.tmp 9), 23, _, _, none⟩) ?_
        simp only [Act.put, pA, pB, pC]
        refine tkA (.int .i64 q) (oi := ⟨some 103, .move (.tmp 10), 3, _, _, none⟩) ?_
        simp only [Act.put, pA, pB, pC]
        refine tkA (.pointer (some ⟨bb, oo + q * 8, none⟩)) (oi := ⟨some 104, .indexAddr 23 (.tmp 102) (.tmp 103), 0, _, _, none⟩) ?_
        simp only [Act.put, pA, pB, pC]
        refine tkA (.agg #[.int .i64 ti.id, ui, .int .i64 ti.lv, .string ti.cl, .string ti.nm, .bool ti.st, .int .i64 ti.wt, .int .i64 ti.ds]) (oi := ⟨some 105, .load 44 (.tmp 104), 44, _, _, none⟩) ?_
        simp only [Act.put, pA, pB, pC]
        refine teA ?_
        refine tlA #[true, true, true, true, true, true, true, true, false, true, true, true, true, false, false, false, false, false, false, false, false, false, false, false, false, false, false, false, false, false, false, false, false, false, false, false, false, false, false, false] ?_
        refine tbA [13, 14, 15, 16] ?_
        refine tkA (.slice (some ⟨bb, oo, none⟩) xn xc) (oi := ⟨some 106, .move (.tmp 9), 23, _, _, none⟩) ?_
        simp only [Act.put, pA, pB, pC]
        refine tkA (.int .i64 z) (oi := ⟨some 107, .move (.tmp 15), 3, _, _, none⟩) ?_
        simp only [Act.put, pA, pB, pC]
        refine tkA (.pointer (some ⟨bb, oo + z * 8, none⟩)) (oi := ⟨some 108, .indexAddr 23 (.tmp 106) (.tmp 107), 0, _, _, none⟩) ?_
        simp only [Act.put, pA, pB, pC]
        refine tkA (.agg #[.int .i64 tk.id, uk, .int .i64 tk.lv, .string tk.cl, .string tk.nm, .bool tk.st, .int .i64 tk.wt, .int .i64 tk.ds]) (oi := ⟨some 109, .load 44 (.tmp 108), 44, _, _, none⟩) ?_
        simp only [Act.put, pA, pB, pC]
        refine teA ?_
        refine tlA #[true, true, true, true, true, true, true, true, false, true, true, true, true, true, true, true, true, false, false, false, false, false, false, false, false, false, false, false, false, false, false, false, false, false, false, false, false, false, false, false] ?_
        refine trA [8] ?_
        refine AllReadyH.cons (o := ⟨some 101, .call { callee := .value (.func 20), args := #[.tmp 96, .tmp 100], argTypes := #[44, 44] }, 4, _, _, none⟩) rfl (fun K hK => ?_) AllReadyH.nil
        go_simp
        go_at_call 20
        refine (joined_is ti tk ui uk jb HJ.out Y0 (RI.out.later J0) (RK.out.later J0)).mono ?_
        rintro e Y1 ⟨rfl, gy⟩
        have J1 := J0.then gy
        clear gy J0
        go_wp2_with fail
        clear hHeld
        refine hK.out _ _ (HS2.out _ J1) (fun hHeld => ?_)
        clear hK K
        try simp only [pA, pB, pC]
        refine tlA #[true, true, true, true, true, true, true, true, true, true, true, true, true, true, true, true, true, false, false, false, false, false, false, false, false, false, false, false, false, false, false, false, false, false, false, false, false, false, false, false] ?_
        refine trA [17] ?_
        refine AllReadyH.cons (o := ⟨some 110, .call { callee := .value (.func 21), args := #[.tmp 105, .tmp 109], argTypes := #[44, 44] }, 4, _, _, none⟩) rfl (fun K hK => ?_) AllReadyH.nil
        go_simp
        go_at_call 21
        refine (rjoined_is ti tk ui uk jb HJ.out Y1 (RI.out.later J1) (RK.out.later J1)).mono ?_
        rintro e Y2 ⟨rfl, gy⟩
        have J2 := J1.then gy
        clear gy J1
        go_wp2_with fail
        clear hHeld
        refine hK.out _ _ (HS2.out _ J2) (fun hHeld => ?_)
        clear hK K
        try simp only [pA, pB, pC]
        refine tlA #[true, true, true, true, true, true, true, true, true, true, true, true, true, true, true, true, true, true, false, false, false, false, false, false, false, false, false, false, false, false, false, false, false, false, false, false, false, false, false, false] ?_
        refine tbA [18, 19] ?_
        refine tkA (.bool false) (oi := ⟨some 111, .binOp .neq 4 (.tmp 101) (.tmp 110) 4, 4, _, _, none⟩) ?_
        simp only [Act.put, pA, pB, pC]
        refine tkA (.bool false) (oi := ⟨some 112, .move (.tmp 111), 4, _, _, none⟩) ?_
        simp only [Act.put, pA, pB, pC]
        refine teA ?_
        refine tlA #[true, true, true, true, true, true, true, true, true, true, true, true, true, true, true, true, true, true, true, true, false, false, false, false, false, false, false, false, false, false, false, false, false, false, false, false, false, false, false, false] ?_
        refine tbA [20, 21, 22, 23, 24, 25] ?_
        refine tkA (.slice (some ⟨bb, oo, none⟩) xn xc) (oi := ⟨some 113, .move (.tmp 9), 23, _, _, some (19, false)⟩) ?_
        simp only [Act.put, pA, pB, pC]
        refine tkA (.int .i64 q) (oi := ⟨some 114, .move (.tmp 10), 3, _, _, some (19, false)⟩) ?_
        simp only [Act.put, pA, pB, pC]
        refine tkA (.pointer (some ⟨bb, oo + q * 8, none⟩)) (oi := ⟨some 115, .indexAddr 23 (.tmp 113) (.tmp 114), 0, _, _, some (19, false)⟩) ?_
        simp only [Act.put, pA, pB, pC]
        refine tkA (.agg #[.int .i64 ti.id, ui, .int .i64 ti.lv, .string ti.cl, .string ti.nm, .bool ti.st, .int .i64 ti.wt, .int .i64 ti.ds]) (oi := ⟨some 116, .load 44 (.tmp 115), 44, _, _, some (19, false)⟩) ?_
        simp only [Act.put, pA, pB, pC]
        refine tkA (.slice (some ⟨bb, oo, none⟩) xn xc) (oi := ⟨some 117, .move (.tmp 9), 23, _, _, some (19, false)⟩) ?_
        simp only [Act.put, pA, pB, pC]
        refine tkA (.int .i64 z) (oi := ⟨some 118, .move (.tmp 15), 3, _, _, some (19, false)⟩) ?_
        simp only [Act.put, pA, pB, pC]
        refine teA ?_
        refine tlA #[true, true, true, true, true, true, true, true, true, true, true, true, true, true, true, true, true, true, true, true, true, true, true, true, true, true, false, false, false, false, false, false, false, false, false, false, false, false, false, false] ?_
        refine tbA [26, 27, 29, 30, 31, 32] ?_
        refine tkA (.pointer (some ⟨bb, oo + z * 8, none⟩)) (oi := ⟨some 119, .indexAddr 23 (.tmp 117) (.tmp 118), 0, _, _, some (19, false)⟩) ?_
        simp only [Act.put, pA, pB, pC]
        refine tkA (.agg #[.int .i64 tk.id, uk, .int .i64 tk.lv, .string tk.cl, .string tk.nm, .bool tk.st, .int .i64 tk.wt, .int .i64 tk.ds]) (oi := ⟨some 120, .load 44 (.tmp 119), 44, _, _, some (19, false)⟩) ?_
        simp only [Act.put, pA, pB, pC]
        refine tkA (.slice (some ⟨bb, oo, none⟩) xn xc) (oi := ⟨some 122, .move (.tmp 9), 23, _, _, some (19, false)⟩) ?_
        simp only [Act.put, pA, pB, pC]
        refine tkA (.int .i64 q) (oi := ⟨some 123, .move (.tmp 10), 3, _, _, some (19, false)⟩) ?_
        simp only [Act.put, pA, pB, pC]
        refine tkA (.pointer (some ⟨bb, oo + q * 8, none⟩)) (oi := ⟨some 124, .indexAddr 23 (.tmp 122) (.tmp 123), 0, _, _, some (19, false)⟩) ?_
        simp only [Act.put, pA, pB, pC]
        refine tkA (.agg #[.int .i64 ti.id, ui, .int .i64 ti.lv, .string ti.cl, .string ti.nm, .bool ti.st, .int .i64 ti.wt, .int .i64 ti.ds]) (oi := ⟨some 125, .load 44 (.tmp 124), 44, _, _, some (19, false)⟩) ?_
        simp only [Act.put, pA, pB, pC]
        refine teA ?_
        refine tlA #[true, true, true, true, true, true, true, true, true, true, true, true, true, true, true, true, true, true, true, true, true, true, true, true, true, true, true, true, false, true, true, true, true, false, false, false, false, false, false, false] ?_
        refine tbA [33, 34, 35, 36] ?_
        refine tkA (.slice (some ⟨bb, oo, none⟩) xn xc) (oi := ⟨some 126, .move (.tmp 9), 23, _, _, some (19, false)⟩) ?_
        simp only [Act.put, pA, pB, pC]
        refine tkA (.int .i64 z) (oi := ⟨some 127, .move (.tmp 15), 3, _, _, some (19, false)⟩) ?_
        simp only [Act.put, pA, pB, pC]
        refine tkA (.pointer (some ⟨bb, oo + z * 8, none⟩)) (oi := ⟨some 128, .indexAddr 23 (.tmp 126) (.tmp 127), 0, _, _, some (19, false)⟩) ?_
        simp only [Act.put, pA, pB, pC]
        refine tkA (.agg #[.int .i64 tk.id, uk, .int .i64 tk.lv, .string tk.cl, .string tk.nm, .bool tk.st, .int .i64 tk.wt, .int .i64 tk.ds]) (oi := ⟨some 129, .load 44 (.tmp 128), 44, _, _, some (19, false)⟩) ?_
        simp only [Act.put, pA, pB, pC]
        refine teA ?_
        refine tlA #[true, true, true, true, true, true, true, true, true, true, true, true, true, true, true, true, true, true, true, true, true, true, true, true, true, true, true, true, false, true, true, true, true, true, true, true, true, false, false, false] ?_
        refine trA [28] ?_
        refine AllReadyH.cons (o := ⟨some 121, .call { callee := .value (.func 22), args := #[.tmp 116, .tmp 120], argTypes := #[44, 44] }, 4, _, _, some (19, false)⟩) rfl (fun K hK => ?_) AllReadyH.nil
        go_simp
        go_at_call 22
        refine (crossw_is ti tk ui uk cr HCR.out Y2 (RI.out.later J2) (RK.out.later J2)).mono ?_
        rintro e Y3 ⟨rfl, gy⟩
        have J3 := J2.then gy
        clear gy J2
        go_wp2_with fail
        clear hHeld
        refine hK.out _ _ (HS2.out _ J3) (fun hHeld => ?_)
        clear hK K
        try simp only [pA, pB, pC]
        refine tlA #[true, true, true, true, true, true, true, true, true, true, true, true, true, true, true, true, true, true, true, true, true, true, true, true, true, true, true, true, true, true, true, true, true, true, true, true, true, false, false, false] ?_
        refine trA [37] ?_
        refine AllReadyH.cons (o := ⟨some 130, .call { callee := .value (.func 23), args := #[.tmp 125, .tmp 129], argTypes := #[44, 44] }, 4, _, _, some (19, false)⟩) rfl (fun K hK => ?_) AllReadyH.nil
        go_simp
        go_at_call 23
        refine (rcrossw_is ti tk ui uk cr HCR.out Y3 (RI.out.later J3) (RK.out.later J3)).mono ?_
        rintro e Y4 ⟨rfl, gy⟩
        have J4 := J3.then gy
        clear gy J3
        go_wp2_with fail
        clear hHeld
        refine hK.out _ _ (HS2.out _ J4) (fun hHeld => ?_)
        clear hK K
        try simp only [pA, pB, pC]
        refine tlA #[true, true, true, true, true, true, true, true, true, true, true, true, true, true, true, true, true, true, true, true, true, true, true, true, true, true, true, true, true, true, true, true, true, true, true, true, true, true, false, false] ?_
        refine tbA [38, 39] ?_
        refine tkA (.bool false) (oi := ⟨some 131, .binOp .neq 4 (.tmp 121) (.tmp 130) 4, 4, _, _, some (19, false)⟩) ?_
        simp only [Act.put, pA, pB, pC]
        refine tkA (.bool false) (oi := ⟨some 132, .pick (.tmp 112) (.const (.bool true)) (.tmp 131), 4, _, _, none⟩) ?_
        simp only [Act.put, pA, pB, pC]
        refine teA ?_
        refine tlA #[true, true, true, true, true, true, true, true, true, true, true, true, true, true, true, true, true, true, true, true, true, true, true, true, true, true, true, true, true, true, true, true, true, true, true, true, true, true, true, true] ?_
        refine wpAnyH_done (by kernel_rfl) ?_ _
        clear hHeld HS2
        go_wp2_with fail
        go_roundw
        case rel => exact ⟨z + 1, by omega, by omega, by go_num, Lib.hid J4⟩
        case measure => simp [RowKit.intOf]; omega
       ·by_cases h1 : z < xn
        ·obtain rfl : z = 8 := by omega
         have b6 : ((8 : Nat) : Int) < xn := by omega
         have b7 : (8 : Int) < xn := by omega
         go_wp2_with fail
         go_roundw
         case rel => exact ⟨q + 1, by omega, by omega, by go_num, G12⟩
         case measure => simp [RowKit.intOf]; omega
        ·obtain rfl : z = xn := by omega
         go_wp2_with fail
         go_roundw
         case rel => exact ⟨q + 1, by omega, by omega, by go_num, G12⟩
         case measure => simp [RowKit.intOf]; omega
     ·by_cases h1 : q < xn
      ·obtain rfl : q = 8 := by omega
       have b3 : ((8 : Nat) : Int) < xn := by omega
       have b4 : (8 : Int) < xn := by omega
       go_wp2_with fail
       go_roundw
       case rel => exact ⟨k + 1, by omega, by go_num, Lib.hid (G0.out.then G6.out)⟩
       case measure => simp [RowKit.intOf]; omega
      ·obtain rfl : q = xn := by omega
       go_wp2_with fail
       go_roundw
       case rel => exact ⟨k + 1, by omega, by go_num, Lib.hid (G0.out.then G6.out)⟩
       case measure => simp [RowKit.intOf]; omega
   ·obtain rfl : k = 4 := by omega
    have HB := Lib.hid (show Below w.heap.size w W0 from GE.out.then G0.out)
    go_wp2_with fail
    go_ret
    exact ⟨rfl, HB.out⟩

end Go.Proofs.YtoaldbjcpfkcjaaGreat
