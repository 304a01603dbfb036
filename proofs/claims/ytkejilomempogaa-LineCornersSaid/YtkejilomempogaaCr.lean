/- line.Cross. -/
import Derived.Test.YtkejilomempogaaCe
import Derived.Test.YtkejilomempogaaCh
namespace Go.Proofs.Ytkejilomempogaa
open Go.RowKit Go.Lib

theorem RowP.kept {w W : World} {v : Value} {ps : List (Int × Int)} (h : RowP w v ps) (k : Kept w W) : RowP W v ps := by
  obtain ⟨a, cap, h1, h2, h3, h4⟩ := h
  refine ⟨a, cap, h1, h2, h3, h4.imp id ?_⟩
  rintro ⟨b, o, e, h⟩
  exact ⟨b, o, e, fun i p hp => ⟨k _ _ (h i p hp).1, k _ _ (h i p hp).2⟩⟩
theorem RowP.putObj {w : World} {v : Value} {ps : List (Int × Int)} {i : Nat} {o o' : Obj} (h : RowP w v ps) (ho : w.heap[i]? = some o) (hc : o.isCells = false) : RowP (w.putObj i o') v ps :=
  h.kept (Kept.putObj (fun _ _ c => c) ho hc)
/-- Whether a segment of a list and a segment of another one have a common point besides those of a third list. -/
def crI (l m c : List (Int × Int)) (i j : Nat) : Bool := mbP (pt l i).1 (pt l i).2 (pt l (i + 1)).1 (pt l (i + 1)).2 (pt m j).1 (pt m j).2 (pt m (j + 1)).1 (pt m (j + 1)).2 c
def crO (l m c : List (Int × Int)) (i : Nat) : Bool := anyTo (crI l m c i) (m.length - 1)
def crossP (l m : List (Int × Int)) : Bool := l.all rtP && (m.all rtP && (nearP l m && anyTo (crO l m (comP l m)) (l.length - 1)))

theorem segs_both {w w1 : World} {bs : List (Nat × List Value)} {v : Value} {ps : List (Int × Int)} (h : Has w bs w1) (hv : RowP w1 v ps) :
    Calls Try.prog 39 #[v] w1 fun e w' => (∃ B, e = .returned (.func (.func 75) #[] #[.pointer (some ⟨B, 0, none⟩)]) ∧ Has w ((B, [v]) :: bs) w') ∧ Grows w1 w' := by
  obtain ⟨a, cap, rfl, -⟩ := hv
  refine (segments_any _ _ _ _).mono ?_
  rintro e w' ⟨rfl, rfl⟩
  exact ⟨⟨_, rfl, h.push [_] 23⟩, (Below.refl _ w1).alloc (Nat.le_refl _) _⟩
theorem segs_hk2 {w w1 A : World} {K : Nat} {bs : List (Nat × List Value)} {v : Value} {ps : List (Int × Int)} (h : HK w K A bs w1) (hv : RowP w1 v ps) :
    Calls Try.prog 39 #[v] w1 fun e w' => (∃ B, e = .returned (.func (.func 75) #[] #[.pointer (some ⟨B, 0, none⟩)]) ∧ HK w K A ((B, [v]) :: bs) w') ∧ Grows w1 w' := by
  obtain ⟨a, cap, rfl, -⟩ := hv
  refine (segments_any _ _ _ _).mono ?_
  rintro e w' ⟨rfl, rfl⟩
  exact ⟨⟨_, rfl, h.push [_] 23⟩, (Below.refl _ w1).alloc (Nat.le_refl _) _⟩
theorem HK.call2 {w A W : World} {B : Nat} {bs : List (Nat × List Value)} {k : FuncId} {args : Array Value} {E : Ending} {P : Program} (h : HK w B A bs W) (hc : Calls P k args W fun e w' => e = E ∧ Below W.heap.size W w') : Calls P k args W fun e w' => e = E ∧ HK w B A bs w' ∧ Grows W w' :=
  hc.mono fun _ _ ⟨h1, h2⟩ => ⟨h1, h.later h2, h2⟩
attribute [local go_sem] Oper.semAt_some
set_option linter.unusedSimpArgs false in
set_option maxRecDepth 100000 in
set_option maxHeartbeats 16000000 in
theorem lcross_any (u v : Value) (l m : List (Int × Int)) (w : World) (hu : RowP w u l) (hv : RowP w v m) :
    Calls Try.prog 26 #[u, v] w fun e w' => e = .returned (.bool (crossP l m)) ∧ Below w.heap.size w w' := by
  have hu0 := hu
  have hv0 := hv
  obtain ⟨a, cap, rfl, hc1, hc2, -⟩ := hu0
  obtain ⟨a2, cap2, rfl, hc3, hc4, -⟩ := hv0
  have HU := Lib.hid hu
  have HV := Lib.hid hv
  clear hu hv
  have C0 := has2 (w := w) [.slice a2 m.length cap2] [.bool false] 23 4
  cases h1 : l.all rtP
  · have HR := Lib.hid (show crossP l m = false by unfold crossP; rw [h1]; rfl)
    have H1 := Lib.hid h1
    clear h1
    go_enter Try.func26, Try.ntmps26
    go_upto_region 1 with fail
    change Has w _ ((w.alloc (.cells #[.slice a2 m.length cap2] 23)).alloc (.cells #[.bool false] 4)) at C0
    generalize (w.alloc (.cells #[.slice a2 m.length cap2] 23)).alloc (.cells #[.bool false] 4) = w1 at *
    have k0 := C0.fact (.head _) (i := 0) rfl
    go_wp2_with fail
    refine (Has.call C0 (rights_is _ l _ (HU.out.later C0.low) _ H1.out)).mono ?_
    rintro e w2 ⟨rfl, C1⟩
    clear k0
    have k0 := C1.fact (.head _) (i := 0) rfl
    have k9 := C1.tail.fact (.head _) (i := 0) rfl
    have f9 := C1.tail.free (.head _) (i := 0) rfl
    go_wp2_with fail
    have CZ := C1.swap.set 0 (by simp) (.bool false)
    generalize w2.setCell ⟨w.heap.size + 1, 0, none⟩ (.bool false) = wz at *
    have d0 : wz.cell? ⟨w.heap.size + 1, 0, none⟩ = some (.bool false) := CZ.fact (.head _) (i := 0) rfl
    exact bodyPost_ret (v := .bool false) (by simp [results, Try.results26, go_sem, d0]) rfl ⟨by rw [HR.out], CZ.low⟩
  · cases h2 : m.all rtP
    · have HR := Lib.hid (show crossP l m = false by unfold crossP; rw [h1, h2]; rfl)
      have H1 := Lib.hid h1
      have H2 := Lib.hid h2
      clear h1 h2
      go_enter Try.func26, Try.ntmps26
      go_upto_region 1 with fail
      change Has w _ ((w.alloc (.cells #[.slice a2 m.length cap2] 23)).alloc (.cells #[.bool false] 4)) at C0
      generalize (w.alloc (.cells #[.slice a2 m.length cap2] 23)).alloc (.cells #[.bool false] 4) = w1 at *
      have k0 := C0.fact (.head _) (i := 0) rfl
      go_wp2_with fail
      refine (Has.call C0 (rights_is _ l _ (HU.out.later C0.low) _ H1.out)).mono ?_
      rintro e w2 ⟨rfl, C1⟩
      clear k0
      have k0 := C1.fact (.head _) (i := 0) rfl
      go_wp2_with fail
      refine (Has.call C1 (rights_is _ m _ (HV.out.later C1.low) _ H2.out)).mono ?_
      rintro e w3 ⟨rfl, C2⟩
      clear k0
      have k9 := C2.tail.fact (.head _) (i := 0) rfl
      have f9 := C2.tail.free (.head _) (i := 0) rfl
      go_wp2_with fail
      have CZ := C2.swap.set 0 (by simp) (.bool false)
      generalize w3.setCell ⟨w.heap.size + 1, 0, none⟩ (.bool false) = wz at *
      have d0 : wz.cell? ⟨w.heap.size + 1, 0, none⟩ = some (.bool false) := CZ.fact (.head _) (i := 0) rfl
      exact bodyPost_ret (v := .bool false) (by simp [results, Try.results26, go_sem, d0]) rfl ⟨by rw [HR.out], CZ.low⟩
    · cases h3 : nearP l m
      · have HR := Lib.hid (show crossP l m = false by unfold crossP; rw [h1, h2, h3]; rfl)
        have H1 := Lib.hid h1
        have H2 := Lib.hid h2
        have H3 := Lib.hid h3
        clear h1 h2 h3
        go_enter Try.func26, Try.ntmps26
        go_upto_region 1 with fail
        change Has w _ ((w.alloc (.cells #[.slice a2 m.length cap2] 23)).alloc (.cells #[.bool false] 4)) at C0
        generalize (w.alloc (.cells #[.slice a2 m.length cap2] 23)).alloc (.cells #[.bool false] 4) = w1 at *
        have k0 := C0.fact (.head _) (i := 0) rfl
        go_wp2_with fail
        refine (Has.call C0 (rights_is _ l _ (HU.out.later C0.low) _ H1.out)).mono ?_
        rintro e w2 ⟨rfl, C1⟩
        clear k0
        have k0 := C1.fact (.head _) (i := 0) rfl
        go_wp2_with fail
        refine (Has.call C1 (rights_is _ m _ (HV.out.later C1.low) _ H2.out)).mono ?_
        rintro e w3 ⟨rfl, C2⟩
        clear k0
        have k0 := C2.fact (.head _) (i := 0) rfl
        go_wp2_with fail
        refine (Has.call C2 (lnear_is _ _ l m _ (HU.out.later C2.low) (HV.out.later C2.low) _ H3.out)).mono ?_
        rintro e w4 ⟨rfl, C3⟩
        clear k0
        have k9 := C3.tail.fact (.head _) (i := 0) rfl
        have f9 := C3.tail.free (.head _) (i := 0) rfl
        go_wp2_with fail
        have CZ := C3.swap.set 0 (by simp) (.bool false)
        generalize w4.setCell ⟨w.heap.size + 1, 0, none⟩ (.bool false) = wz at *
        have d0 : wz.cell? ⟨w.heap.size + 1, 0, none⟩ = some (.bool false) := CZ.fact (.head _) (i := 0) rfl
        exact bodyPost_ret (v := .bool false) (by simp [results, Try.results26, go_sem, d0]) rfl ⟨by rw [HR.out], CZ.low⟩
      · obtain ⟨r, hr⟩ : ∃ r, anyTo (crO l m (comP l m)) (l.length - 1) = r := ⟨_, rfl⟩
        have HR := Lib.hid (show crossP l m = r by unfold crossP; rw [h1, h2, h3, hr]; rfl)
        have H1 := Lib.hid h1
        have H2 := Lib.hid h2
        have H3 := Lib.hid h3
        have HF := Lib.hid hr
        clear h1 h2 h3 hr
        refine (callsIn_wide (n := 7)).1 ?_
        refine callsIn_of_wp_marks Try.func26 rfl trivial ?_ rfl
        simp only [Try.ntmps26, List.size_toArray, List.length_cons, List.length_nil, Nat.reduceAdd, Nat.reduceSub, Array.replicate_succ, Array.replicate_zero, List.push_toArray, List.append_toArray, List.nil_append, List.cons_append]
        gi_wp2_with fail
        change Has w _ ((w.alloc (.cells #[.slice a2 m.length cap2] 23)).alloc (.cells #[.bool false] 4)) at C0
        generalize (w.alloc (.cells #[.slice a2 m.length cap2] 23)).alloc (.cells #[.bool false] 4) = w1 at *
        refine ⟨trivial, (callsIn_wide.2 (Has.call C0 (rights_is _ l _ (HU.out.later C0.low) _ H1.out))).mono ?_⟩
        rintro e w2 ⟨rfl, C1⟩
        have k0 := C1.fact (.head _) (i := 0) rfl
        gi_wp2_with fail
        refine ⟨trivial, (callsIn_wide.2 (Has.call C1 (rights_is _ m _ (HV.out.later C1.low) _ H2.out))).mono ?_⟩
        rintro e w3 ⟨rfl, C2⟩
        clear k0
        have k0 := C2.fact (.head _) (i := 0) rfl
        gi_wp2_with fail
        refine ⟨trivial, (callsIn_wide.2 (Has.call C2 (lnear_is _ _ l m _ (HU.out.later C2.low) (HV.out.later C2.low) _ H3.out))).mono ?_⟩
        rintro e w4 ⟨rfl, C3⟩
        clear k0
        have k0 := C3.fact (.head _) (i := 0) rfl
        gi_wp2_with fail
        refine ⟨trivial, (callsIn_wide.2 (common_any _ _ l m w4 (HU.out.later C3.low) (HV.out.later C3.low))).mono ?_⟩
        rintro e w5 ⟨x, rfl, hO, g5⟩
        have hx := hO.row
        obtain ⟨ax, capx, rfl, -, -, -⟩ := hO.row
        have C4 := C3.later g5
        clear k0 C0 C1 C2 C3 hO
        generalize hqc : comP l m = qs at *
        have C5 := C4.push [.slice ax qs.length capx] 23
        have hx2 := hx.later ((Below.refl _ w5).alloc (Nat.le_refl _) (.cells #[.slice ax qs.length capx] 23))
        change Has w _ (w5.alloc (.cells #[.slice ax qs.length capx] 23)) at C5
        gi_wp2_with fail
        generalize w5.alloc (.cells #[.slice ax qs.length capx] 23) = w6 at *
        generalize w5.heap.size = G at *
        refine ⟨trivial, (callsIn_wide.2 (segs_both C5 (HU.out.later C5.low))).mono ?_⟩
        rintro e w7 ⟨⟨B, rfl, C6⟩, g7⟩
        have hx3 := hx2.later g7
        clear C4 C5 hx hx2 g5
        gi_wp2_with fail
        have hM : w.heap.size + 1 < w7.heap.size := C6.tail.tail.tail.lt0
        refine range_sq (K := l.length - 1) (enc := fun k => #[.int .i64 k, .agg #[.int .i64 (pt l k).1, .int .i64 (pt l k).2, .int .i64 (pt l (k + 1)).1, .int .i64 (pt l (k + 1)).2]]) (Lv := fun W => W.cell? ⟨B, 0, none⟩ = some (.slice a l.length cap) ∧ RowP W (.slice a l.length cap) l) (w0 := w) rfl (enters_of Try.func75 (by kernel_rfl) rfl) (seg_seq _ l (.slice a l.length cap) B w) C6.low (fun _ => rfl)
          (fun k W => Has w [(B, [.slice a l.length cap]), (G, [.slice ax qs.length capx]), (w.heap.size, [.slice a2 m.length cap2]), (w.heap.size + 1, [.bool false])] W ∧ RowP W (.slice ax qs.length capx) qs ∧ Hid (anyTo (crO l m qs) k = false))
          (fun c k W => c = .ret ∧ Has w [(w.heap.size + 1, [.bool true])] W ∧ Hid (crO l m qs k = true))
          (fun k a' W => ∃ g, a' = { tmps := #[.slice a l.length cap, .slice a2 m.length cap2, undef, .pointer (some ⟨w.heap.size, 0, none⟩), .pointer (some ⟨w.heap.size + 1, 0, none⟩), .pointer (some ⟨G, 0, none⟩), undef, .pointer (some ⟨g, 0, none⟩), undef, undef, .slice a l.length cap, .bool true, .bool false, .bool false, .slice a2 m.length cap2, .bool true, .bool false, .bool false, .bool false, .slice a l.length cap, .slice a2 m.length cap2, .bool true, .bool false, .bool false, .slice a l.length cap, .slice a2 m.length cap2, .slice ax qs.length capx, .slice a l.length cap, .func (.func 75) #[] #[.pointer (some ⟨B, 0, none⟩)], .int .i64 k, .agg #[.int .i64 (pt l k).1, .int .i64 (pt l k).2, .int .i64 (pt l (k + 1)).1, .int .i64 (pt l (k + 1)).2], undef, undef, undef, undef, undef, undef, undef, undef], defers := [] } ∧ Has w [(g, [.int .i64 (pt l k).1, .int .i64 (pt l k).2, .int .i64 (pt l (k + 1)).1, .int .i64 (pt l (k + 1)).2]), (B, [.slice a l.length cap]), (G, [.slice ax qs.length capx]), (w.heap.size, [.slice a2 m.length cap2]), (w.heap.size + 1, [.bool false])] W ∧ RowP W (.slice ax qs.length capx) qs ∧ Hid (anyTo (crO l m qs) k = false))
          (fun k A W h g => ⟨h.1.later g, h.2.1.later g, h.2.2⟩) (fun c k A W h g => ⟨h.1, h.2.1.later g, h.2.2⟩) (fun k A h => ⟨h.1.fact (.head _) (i := 0) rfl, HU.out.later h.1.low⟩)
          (fun k A l o o' h hl ho hc => ⟨h.1.putObj (by omega) ho hc, h.2.1.putObj ho hc, h.2.2⟩) (fun c k A l o o' h hl ho hc => ⟨h.1, h.2.1.putObj (by omega) ho hc, h.2.2⟩)
          (fun k a' A l o o' h hl ho hc => by obtain ⟨g, e, hh, hx, hy⟩ := h; exact ⟨g, e, hh.putObj (by omega) ho hc, hx.putObj ho hc, hy⟩) ⟨C6, hx3, Lib.hid rfl⟩ ?assign ?body ?done ?stop
        case assign =>
          rintro _ k A T hk ⟨hI, hI2, hX⟩ hT
          generalize (pt l k).1 = x0 at *
          generalize (pt l k).2 = x1 at *
          generalize (pt l (k + 1)).1 = x2 at *
          generalize (pt l (k + 1)).2 = x3 at *
          gi_wp2_with fail
          have E := (HK.start (B := w7.heap.size) hI).push [.int .i64 x0, .int .i64 x1, .int .i64 x2, .int .i64 x3] 64
          exact hT _ _ E.k ⟨_, rfl, E.h, hI2.later ((Below.refl _ A).alloc (Nat.le_refl _) _), hX⟩
        case done =>
          rintro D A hD ⟨hI, hI2, hX⟩ hK
          have hr : r = false := HF.out.symm.trans hX.out
          subst hr
          have k0 := hI.tail.tail.tail.fact (.head _) (i := 0) rfl
          have f0 := hI.tail.tail.tail.free (.head _) (i := 0) rfl
          gi_wp2_with fail
          have X2 := hI.tail.tail.tail.set 0 (by simp) (.bool false)
          have hK2 := (keeps_set (B := 0) A ⟨w.heap.size + 1, 0, none⟩ (.bool false)).same D _ (Nat.zero_le _) hK rfl
          generalize A.setCell ⟨w.heap.size + 1, 0, none⟩ (.bool false) = A2 at *
          refine ⟨by simp, .inl ⟨_, _, rfl, run_takeDeferred hK2, ?_⟩⟩
          have X3 := X2.putObj (ob' := .deferred none) (by omega) hK2 rfl
          have d0 : (A2.putObj D (.deferred none)).cell? ⟨w.heap.size + 1, 0, none⟩ = some (.bool false) := X3.fact (.head _) (i := 0) rfl
          exact ⟨.bool false, by simp [results, Try.results26, go_sem, d0], by rw [HR.out], X3.low⟩
        case stop =>
          rintro D c k A hD hk ⟨rfl, hI, hX⟩ hK
          have hr : true = r := (anyTo_yes hX.out hk).trans HF.out
          subst hr
          gi_wp2_with fail
          refine ⟨by simp, .inl ⟨_, _, rfl, run_takeDeferred hK, ?_⟩⟩
          have X3 := hI.putObj (ob' := .deferred none) (by omega) hK rfl
          have d0 : (A.putObj D (.deferred none)).cell? ⟨w.heap.size + 1, 0, none⟩ = some (.bool true) := X3.fact (.head _) (i := 0) rfl
          exact ⟨.bool true, by simp [results, Try.results26, go_sem, d0], by rw [HR.out], X3.low⟩
        case body =>
          rintro lo k a' A hl ⟨r0, hr0⟩ ⟨gt, rfl, hI, hI2, hX⟩ hk
          generalize hy0 : (pt l k).1 = y0 at *
          generalize hy1 : (pt l k).2 = y1 at *
          generalize hy2 : (pt l (k + 1)).1 = y2 at *
          generalize hy3 : (pt l (k + 1)).2 = y3 at *
          have HY0 := Lib.hid hy0
          have HY1 := Lib.hid hy1
          have HY2 := Lib.hid hy2
          have HY3 := Lib.hid hy3
          clear hy0 hy1 hy2 hy3
          have k5 := hI.tail.tail.tail.fact (.head _) (i := 0) rfl
          gi_wp2_with fail
          refine ⟨trivial, (round_call (segs_hk2 (HK.start (B := 0) hI) (HV.out.later hI.low))).mono ?_⟩
          rintro e A1 ⟨⟨B2, rfl, E⟩, gA⟩
          have hI3 := hI2.later gA
          clear k5
          gi_wp2_with fail
          have hA1 : A.heap.size ≤ A1.heap.size := E.k.size
          have hwA : w.heap.size ≤ A1.heap.size := E.h.low.size
          refine range_sqN (l₀ := lo) (r₀ := r0) (K := m.length - 1) (enc := fun i => #[.int .i64 i, .agg #[.int .i64 (pt m i).1, .int .i64 (pt m i).2, .int .i64 (pt m (i + 1)).1, .int .i64 (pt m (i + 1)).2]]) (Lv := fun W => W.cell? ⟨B2, 0, none⟩ = some (.slice a2 m.length cap2) ∧ RowP W (.slice a2 m.length cap2) m) (w0 := w) (E.k.same lo _ (Nat.zero_le _) hr0 rfl) rfl (enters_of Try.func75 (by kernel_rfl) rfl) (seg_seq _ m (.slice a2 m.length cap2) B2 w) E.h.low (fun _ => rfl)
            (fun i W => HK w 0 A [(B2, [.slice a2 m.length cap2]), (gt, [.int .i64 y0, .int .i64 y1, .int .i64 y2, .int .i64 y3]), (B, [.slice a l.length cap]), (G, [.slice ax qs.length capx]), (w.heap.size, [.slice a2 m.length cap2]), (w.heap.size + 1, [.bool false])] W ∧ RowP W (.slice ax qs.length capx) qs ∧ Hid (anyTo (crI l m qs k) i = false))
            (fun c i W => c = .ret ∧ HK w 0 A [(w.heap.size + 1, [.bool true])] W ∧ Hid (crI l m qs k i = true))
            (fun i a' W => ∃ g, a' = { tmps := #[.slice a l.length cap, .slice a2 m.length cap2, undef, .pointer (some ⟨w.heap.size, 0, none⟩), .pointer (some ⟨w.heap.size + 1, 0, none⟩), .pointer (some ⟨G, 0, none⟩), undef, .pointer (some ⟨gt, 0, none⟩), undef, .pointer (some ⟨g, 0, none⟩), .slice a l.length cap, .bool true, .bool false, .bool false, .slice a2 m.length cap2, .bool true, .bool false, .bool false, .bool false, .slice a l.length cap, .slice a2 m.length cap2, .bool true, .bool false, .bool false, .slice a l.length cap, .slice a2 m.length cap2, .slice ax qs.length capx, .slice a l.length cap, .func (.func 75) #[] #[.pointer (some ⟨B, 0, none⟩)], .int .i64 (k : Int), .agg #[.int .i64 y0, .int .i64 y1, .int .i64 y2, .int .i64 y3], .slice a2 m.length cap2, .func (.func 75) #[] #[.pointer (some ⟨B2, 0, none⟩)], .int .i64 i, .agg #[.int .i64 (pt m i).1, .int .i64 (pt m i).2, .int .i64 (pt m (i + 1)).1, .int .i64 (pt m (i + 1)).2], undef, undef, undef, undef], defers := [] } ∧ HK w 0 A [(g, [.int .i64 (pt m i).1, .int .i64 (pt m i).2, .int .i64 (pt m (i + 1)).1, .int .i64 (pt m (i + 1)).2]), (B2, [.slice a2 m.length cap2]), (gt, [.int .i64 y0, .int .i64 y1, .int .i64 y2, .int .i64 y3]), (B, [.slice a l.length cap]), (G, [.slice ax qs.length capx]), (w.heap.size, [.slice a2 m.length cap2]), (w.heap.size + 1, [.bool false])] W ∧ RowP W (.slice ax qs.length capx) qs ∧ Hid (anyTo (crI l m qs k) i = false))
            (fun i A W h g => ⟨h.1.later g, h.2.1.later g, h.2.2⟩) (fun c i A W h g => ⟨h.1, h.2.1.later g, h.2.2⟩)
            (fun i A h => ⟨h.1.h.fact (.head _) (i := 0) rfl, HV.out.later h.1.h.low⟩)
            (fun i A l o o' h hl ho hc => ⟨h.1.putObj (by omega) (by omega) ho hc, h.2.1.putObj ho hc, h.2.2⟩)
            (fun c i A l o o' h hl ho hc => ⟨h.1, h.2.1.putObj (by omega) (by omega) ho hc, h.2.2⟩)
            (fun i a' A l o o' h hl ho hc => by obtain ⟨g, e, hh, hx, hy⟩ := h; exact ⟨g, e, hh.putObj (by omega) (by omega) ho hc, hx.putObj ho hc, hy⟩) ⟨E, hI3, Lib.hid rfl⟩ ?assign ?body ?done ?stop
          case assign =>
            rintro _ i A2 T hi ⟨hJ, hJ2, hX2⟩ hT
            generalize (pt m i).1 = x0 at *
            generalize (pt m i).2 = x1 at *
            generalize (pt m (i + 1)).1 = x2 at *
            generalize (pt m (i + 1)).2 = x3 at *
            gi_wp2_with fail
            have E3 := hJ.push [.int .i64 x0, .int .i64 x1, .int .i64 x2, .int .i64 x3] 64
            exact hT _ _ (keeps_grows ((Below.refl _ A2).alloc (Nat.le_refl _) _)) ⟨_, rfl, E3, hJ2.later ((Below.refl _ A2).alloc (Nat.le_refl _) _), hX2⟩
          case done =>
            rintro A2 ⟨hJ, hJ2, hX2⟩
            gi_wp2_with fail
            exact ⟨keeps_mono hJ.k (Nat.zero_le _), hJ.h.tail.tail, hJ2, Lib.hid (anyTo_no hX.out (by unfold crO; exact hX2.out))⟩
          case stop =>
            rintro c i A2 hi ⟨rfl, hJ, hX2⟩
            gi_wp2_with fail
            exact ⟨keeps_mono hJ.k (Nat.zero_le _), rfl, hJ.h, Lib.hid (by unfold crO; exact (anyTo_yes hX2.out hi).symm)⟩
          case body =>
            rintro l2 i a' A2 hl2 - ⟨gs, rfl, hJ, hJ2, hX2⟩ hi
            obtain ⟨q, hq⟩ : ∃ q, crI l m qs k i = q := ⟨_, rfl⟩
            have hm : mbP y0 y1 y2 y3 (pt m i).1 (pt m i).2 (pt m (i + 1)).1 (pt m (i + 1)).2 qs = q := by rw [← hq]; unfold crI; rw [HY0.out, HY1.out, HY2.out, HY3.out]
            generalize (pt m i).1 = x0 at *
            generalize (pt m i).2 = x1 at *
            generalize (pt m (i + 1)).1 = x2 at *
            generalize (pt m (i + 1)).2 = x3 at *
            have HM := Lib.hid hm
            have HQ := Lib.hid hq
            clear hm hq
            obtain ⟨k0, k1, k2, k3⟩ := hJ.h.one4
            obtain ⟨k4, k5, k6, k7⟩ := hJ.h.tail.tail.one4
            have k8 := hJ.h.tail.tail.tail.tail.fact (.head _) (i := 0) rfl
            gi_wp2_with fail
            refine ⟨trivial, (round_call (HK.call2 (HK.start (B := 0) hJ.h) (beside_is _ qs _ _ _ _ _ _ _ _ _ hJ2 _ HM.out))).mono ?_⟩
            rintro e A3 ⟨rfl, X1, gB⟩
            have RR := hJ2.later gB
            clear k0 k1 k2 k3 k4 k5 k6 k7 k8
            cases q
            · gi_wp2_with fail
              exact ⟨keeps_mono X1.k (Nat.zero_le _), ⟨X1.h.tail, hJ.k.trans X1.k⟩, RR, Lib.hid (anyTo_no hX2.out HQ.out)⟩
            · have k9 := X1.h.tail.tail.tail.tail.tail.tail.fact (.head _) (i := 0) rfl
              have f9 := X1.h.tail.tail.tail.tail.tail.tail.free (.head _) (i := 0) rfl
              gi_wp2_with fail
              have X3 := X1.tail.tail.tail.tail.tail.tail.set 0 (by simp) (.bool true)
              exact ⟨keeps_mono X3.k (Nat.zero_le _), rfl, ⟨X3.h, hJ.k.trans X3.k⟩, HQ⟩

end Go.Proofs.Ytkejilomempogaa
