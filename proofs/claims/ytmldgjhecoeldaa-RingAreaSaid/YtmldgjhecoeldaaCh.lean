/- line.simple: whether a list meets itself. line.Check. -/
import Derived.Test.YtmldgjhecoeldaaRRv
import Derived.Test.YtmldgjhecoeldaaAn
namespace Go.Proofs.Ytmldgjhecoeldaa
open Go.RowKit Go.Lib

theorem Mid {α : Type} (x b c d e f : α) : List.Perm [x, b, c, d, e, f] [b, c, d, x, e, f] :=
  ((List.Perm.swap _ _ _).trans (.cons _ ((List.Perm.swap _ _ _).trans (.cons _ (.swap _ _ _)))))
theorem Mid6 {α : Type} (x b c d e f : α) : List.Perm [b, c, d, e, f, x] [x, b, c, d, e, f] :=
  (((List.Perm.cons _ ((List.Perm.cons _ ((List.Perm.cons _ ((List.Perm.cons _ (.swap _ _ _)).trans (.swap _ _ _))).trans (.swap _ _ _))).trans (.swap _ _ _))).trans (.swap _ _ _)))
theorem keeps_mono {B B' : Nat} {X Y : World} (h : KeepsFrom B X Y) (hB : B ≤ B') : KeepsFrom B' X Y := ⟨h.size, fun k o hk => h.same k o (Nat.le_trans hB hk)⟩
theorem HK.putObj {w A W : World} {B i : Nat} {bs : List (Nat × List Value)} {ob ob' : Obj} (h : HK w B A bs W) (hi : w.heap.size ≤ i) (hA : A.heap.size ≤ i) (ho : W.heap[i]? = some ob) (hc : ob.isCells = false) : HK w B A bs (W.putObj i ob') :=
  ⟨h.h.putObj hi ho hc, ⟨by rw [World.putObj_size]; exact h.k.size, fun k o hk h1 h2 => (World.putObj_heap_other (by have := (Array.getElem?_eq_some_iff.1 h1).1; omega)).trans (h.k.same k o hk h1 h2)⟩⟩
/-- How often the segments i and j of a list meet, as line.meet says it; whether that is not what is wanted. -/
def lmK (ps : List (Int × Int)) (i j : Nat) : Int := lmeet (pt ps i).1 (pt ps i).2 (pt ps (i + 1)).1 (pt ps (i + 1)).2 (pt ps j).1 (pt ps j).2 (pt ps (j + 1)).1 (pt ps (j + 1)).2
def badM (ps : List (Int × Int)) (j i : Nat) : Bool := decide (lmK ps i j ≠ wantP ps i j)
def badS (ps : List (Int × Int)) (j : Nat) : Bool := decide (pt ps j = pt ps (j + 1)) || anyTo (badM ps j) j
def simpleP (ps : List (Int × Int)) : Bool := !anyTo (badS ps) (ps.length - 1)
theorem joints_is (v : Value) (ps : List (Int × Int)) (i j : Nat) (w : World) (hv : RowP w v ps) (hi : i < ps.length) (hj : j < ps.length) (h2 : 2 ≤ ps.length) (s : Int) (h : wantP ps i j = s) :
    Calls Try.prog 83 #[v, .int .i64 i, .int .i64 j] w fun e w' => e = .returned (.int .i64 s) ∧ Below w.heap.size w w' := h ▸ joints_any v ps i j w hv hi hj h2

theorem segs_hk {w w1 A : World} {K : Nat} {bs : List (Nat × List Value)} {v : Value} {ps : List (Int × Int)} (h : HK w K A bs w1) (hv : RowP w1 v ps) :
    Calls Try.prog 81 #[v] w1 fun e w' => ∃ B, e = .returned (.func (.func 96) #[] #[.pointer (some ⟨B, 0, none⟩)]) ∧ HK w K A ((B, [v]) :: bs) w' := by
  obtain ⟨a, cap, rfl, -⟩ := hv
  refine (segments_any _ _ _ _).mono ?_
  rintro e w' ⟨rfl, rfl⟩
  exact ⟨_, rfl, h.push [_] 25⟩
attribute [local go_sem] Oper.semAt_some
set_option linter.unusedSimpArgs false in
set_option maxRecDepth 100000 in
set_option maxHeartbeats 16000000 in
theorem simple_any (v : Value) (ps : List (Int × Int)) (w : World) (hv : RowP w v ps) (hlen : (ps.length : Int) ≤ 1000000) :
    Calls Try.prog 54 #[v] w fun e w' => e = .returned (.bool (simpleP ps)) ∧ Below w.heap.size w w' := by
  have hv0 := hv
  obtain ⟨a, cap, rfl, hc1, hc2, -⟩ := hv0
  have HV := Lib.hid hv
  clear hv
  have C0 := has2 (w := w) [.slice a ps.length cap] [.bool false] 25 4
  obtain ⟨r, hr⟩ : ∃ r, anyTo (badS ps) (ps.length - 1) = r := ⟨_, rfl⟩
  have HR := Lib.hid (show simpleP ps = !r by unfold simpleP; rw [hr])
  have HF := Lib.hid hr
  clear hr
  refine (callsIn_wide (n := 7)).1 ?_
  refine callsIn_of_wp_marks Try.func54 rfl trivial ?_ rfl
  simp only [Try.ntmps54, List.size_toArray, List.length_cons, List.length_nil, Nat.reduceAdd, Nat.reduceSub, Array.replicate_succ, Array.replicate_zero, List.push_toArray, List.append_toArray, List.nil_append, List.cons_append]
  gi_wp2_with fail
  change Has w _ ((w.alloc (.cells #[.slice a ps.length cap] 25)).alloc (.cells #[.bool false] 4)) at C0
  generalize (w.alloc (.cells #[.slice a ps.length cap] 25)).alloc (.cells #[.bool false] 4) = w1 at *
  have k0 := C0.fact (.head _) (i := 0) rfl
  refine wpIn_wide.2 (wp_scope_straight ((wpIn_wide (n := 7)).1 ?_))
  gi_wp2_with fail
  refine wpIn_label ?_
  gi_wp2_with fail
  refine ⟨trivial, (callsIn_wide.2 (segs_has C0 (HV.out.later C0.low))).mono ?_⟩
  rintro e w4 ⟨B, rfl, C4⟩
  clear k0 C0
  gi_wp2_with fail
  have hB : B < w4.heap.size := C4.lt0
  have hM : w.heap.size + 1 < w4.heap.size := C4.tail.tail.lt0
  refine range_sq (K := ps.length - 1) (enc := fun k => #[.int .i64 k, .agg #[.int .i64 (pt ps k).1, .int .i64 (pt ps k).2, .int .i64 (pt ps (k + 1)).1, .int .i64 (pt ps (k + 1)).2]]) (Lv := fun W => W.cell? ⟨B, 0, none⟩ = some (.slice a ps.length cap) ∧ RowP W (.slice a ps.length cap) ps) (w0 := w) rfl (enters_of Try.func96 (by kernel_rfl) rfl) (seg_seq _ ps (.slice a ps.length cap) B w) C4.low (fun _ => rfl)
    (fun k W => Has w [(B, [.slice a ps.length cap]), (w.heap.size, [.slice a ps.length cap]), (w.heap.size + 1, [.bool false])] W ∧ Hid (anyTo (badS ps) k = false))
    (fun c k W => c = .ret ∧ Has w [(w.heap.size + 1, [.bool false]), (B, [.slice a ps.length cap]), (w.heap.size, [.slice a ps.length cap])] W ∧ Hid (badS ps k = true))
    (fun k a' W => ∃ gj gt, a' = { tmps := #[.slice a ps.length cap, .pointer (some ⟨w.heap.size, 0, none⟩), .pointer (some ⟨w.heap.size + 1, 0, none⟩), .pointer (some ⟨gj, 0, none⟩), .pointer (some ⟨gt, 0, none⟩), undef, undef, .slice a ps.length cap, .func (.func 96) #[] #[.pointer (some ⟨B, 0, none⟩)], .int .i64 k, .agg #[.int .i64 (pt ps k).1, .int .i64 (pt ps k).2, .int .i64 (pt ps (k + 1)).1, .int .i64 (pt ps (k + 1)).2], undef, undef, undef, undef, undef, undef, undef, undef, undef, undef, undef, undef, undef, undef, undef, undef, undef, undef, undef, undef], defers := [] } ∧ Has w [(gt, [.int .i64 (pt ps k).1, .int .i64 (pt ps k).2, .int .i64 (pt ps (k + 1)).1, .int .i64 (pt ps (k + 1)).2]), (gj, [.int .i64 k]), (B, [.slice a ps.length cap]), (w.heap.size, [.slice a ps.length cap]), (w.heap.size + 1, [.bool false])] W ∧ Hid (anyTo (badS ps) k = false))
    (fun k A W h g => ⟨h.1.later g, h.2⟩) (fun c k A W h g => ⟨h.1, h.2.1.later g, h.2.2⟩) (fun k A h => ⟨h.1.fact (.head _) (i := 0) rfl, HV.out.later h.1.low⟩)
    (fun k A l o o' h hl ho hc => ⟨h.1.putObj (by omega) ho hc, h.2⟩) (fun c k A l o o' h hl ho hc => ⟨h.1, h.2.1.putObj (by omega) ho hc, h.2.2⟩)
    (fun k a' A l o o' h hl ho hc => by obtain ⟨gj, gt, e, hh, hx⟩ := h; exact ⟨gj, gt, e, hh.putObj (by omega) ho hc, hx⟩) ⟨C4, Lib.hid rfl⟩ ?assign ?body ?done ?stop
  case assign =>
    rintro l k A T hk ⟨hI, hX⟩ hT
    generalize (pt ps k).1 = x0 at *
    generalize (pt ps k).2 = x1 at *
    generalize (pt ps (k + 1)).1 = x2 at *
    generalize (pt ps (k + 1)).2 = x3 at *
    gi_wp2_with fail
    have E := ((HK.start (B := w4.heap.size) hI).push [.int .i64 k] 3).push [.int .i64 x0, .int .i64 x1, .int .i64 x2, .int .i64 x3] 102
    have Eh := E.h
    rw [size_alloc] at Eh
    exact hT _ _ E.k ⟨_, _, rfl, Eh, hX⟩
  case done =>
    rintro D A hD ⟨hI, hX⟩ hK
    have hr : r = false := HF.out.symm.trans hX.out
    subst hr
    have k0 := hI.tail.tail.fact (.head _) (i := 0) rfl
    have f0 := hI.tail.tail.free (.head _) (i := 0) rfl
    gi_wp2_with fail
    have X2 := (hI.third.set 0 (by simp) (.bool true))
    have hK2 := (keeps_set (B := 0) A ⟨w.heap.size + 1, 0, none⟩ (.bool true)).same D _ (Nat.zero_le _) hK rfl
    generalize A.setCell ⟨w.heap.size + 1, 0, none⟩ (.bool true) = A2 at *
    refine ⟨by simp, .inl ⟨_, _, rfl, run_takeDeferred hK2, ?_⟩⟩
    have X3 := X2.putObj (ob' := .deferred none) (by omega) hK2 rfl
    have d0 : (A2.putObj D (.deferred none)).cell? ⟨w.heap.size + 1, 0, none⟩ = some (.bool true) := X3.fact (.head _) (i := 0) rfl
    exact ⟨.bool true, by simp [results, Try.results54, go_sem, d0], by rw [HR.out]; rfl, X3.low⟩
  case stop =>
    rintro D c k A hD hk ⟨rfl, hI, hX⟩ hK
    have hr : true = r := (anyTo_yes hX.out hk).trans HF.out
    subst hr
    gi_wp2_with fail
    refine ⟨by simp, .inl ⟨_, _, rfl, run_takeDeferred hK, ?_⟩⟩
    have X3 := hI.putObj (ob' := .deferred none) (by omega) hK rfl
    have d0 : (A.putObj D (.deferred none)).cell? ⟨w.heap.size + 1, 0, none⟩ = some (.bool false) := X3.fact (.head _) (i := 0) rfl
    exact ⟨.bool false, by simp [results, Try.results54, go_sem, d0], by rw [HR.out]; rfl, X3.low⟩
  case body =>
    rintro l k a' A hl ⟨r0, hr0⟩ ⟨gj, gt, rfl, hI, hX⟩ hk
    obtain ⟨q, hq⟩ : ∃ q, decide (pt ps k = pt ps (k + 1)) = q := ⟨_, rfl⟩
    have he := eq3 (pt ps k).1 (pt ps k).2 (pt ps (k + 1)).1 (pt ps (k + 1)).2
    rw [show decide (((pt ps k).1, (pt ps k).2) = ((pt ps (k + 1)).1, (pt ps (k + 1)).2)) = decide (pt ps k = pt ps (k + 1)) from rfl, hq] at he
    have HQ := Lib.hid hq
    clear hq
    generalize hy0 : (pt ps k).1 = y0 at *
    generalize hy1 : (pt ps k).2 = y1 at *
    generalize hy2 : (pt ps (k + 1)).1 = y2 at *
    generalize hy3 : (pt ps (k + 1)).2 = y3 at *
    have HY0 := Lib.hid hy0
    have HY1 := Lib.hid hy1
    have HY2 := Lib.hid hy2
    have HY3 := Lib.hid hy3
    clear hy0 hy1 hy2 hy3
    obtain ⟨k0, k1, k2, k3⟩ := hI.one4
    rcases he with ⟨e1, e2, e3⟩ | ⟨e1, e2, e3⟩ | ⟨e1, e3⟩
    · subst e3
      have f0 := hI.tail.tail.tail.tail.free (.head _) (i := 0) rfl
      have k4 := hI.tail.tail.tail.tail.fact (.head _) (i := 0) rfl
      gi_wp2_with fail
      have E := (HK.perm (HK.start (B := w4.heap.size) hI).tail.tail ((List.Perm.cons _ (.swap _ _ _)).trans (.swap _ _ _))).set 0 (by simp) (.bool false)
      exact ⟨E.k, rfl, E.h, Lib.hid (by unfold badS; rw [HQ.out]; rfl)⟩
    · subst e3
      have k5 := hI.tail.tail.tail.fact (.head _) (i := 0) rfl
      gi_wp2_with fail
      refine ⟨trivial, (round_call (segs_hk (HK.start (B := 0) hI) (HV.out.later hI.low))).mono ?_⟩
      rintro e A1 ⟨B2, rfl, E⟩
      clear k0 k1 k2 k3 k5 e1 e2
      gi_wp2_with fail
      have hA1 : A.heap.size ≤ A1.heap.size := E.k.size
      have hwA : w.heap.size ≤ A1.heap.size := E.h.low.size
      refine range_sqN (l₀ := l) (r₀ := r0) (K := ps.length - 1) (enc := fun i => #[.int .i64 i, .agg #[.int .i64 (pt ps i).1, .int .i64 (pt ps i).2, .int .i64 (pt ps (i + 1)).1, .int .i64 (pt ps (i + 1)).2]]) (Lv := fun W => W.cell? ⟨B2, 0, none⟩ = some (.slice a ps.length cap) ∧ RowP W (.slice a ps.length cap) ps) (w0 := w) (E.k.same l _ (Nat.zero_le _) hr0 rfl) rfl (enters_of Try.func96 (by kernel_rfl) rfl) (seg_seq _ ps (.slice a ps.length cap) B2 w) E.h.low (fun _ => rfl)
        (fun i W => i ≤ k ∧ HK w 0 A [(B2, [.slice a ps.length cap]), (gt, [.int .i64 y0, .int .i64 y1, .int .i64 y2, .int .i64 y3]), (gj, [.int .i64 k]), (B, [.slice a ps.length cap]), (w.heap.size, [.slice a ps.length cap]), (w.heap.size + 1, [.bool false])] W ∧ Hid (anyTo (badM ps k) i = false))
        (fun c i W => (c = .exit 1 ∧ HK w 0 A [(B2, [.slice a ps.length cap]), (gt, [.int .i64 y0, .int .i64 y1, .int .i64 y2, .int .i64 y3]), (gj, [.int .i64 k]), (B, [.slice a ps.length cap]), (w.heap.size, [.slice a ps.length cap]), (w.heap.size + 1, [.bool false])] W ∧ Hid (anyTo (badM ps k) k = false)) ∨ (c = .ret ∧ i < k ∧ HK w 0 A [(w.heap.size + 1, [.bool false]), (B2, [.slice a ps.length cap]), (gt, [.int .i64 y0, .int .i64 y1, .int .i64 y2, .int .i64 y3]), (gj, [.int .i64 k]), (B, [.slice a ps.length cap]), (w.heap.size, [.slice a ps.length cap])] W ∧ Hid (badM ps k i = true)))
        (fun i a' W => i ≤ k ∧ ∃ gs, a' = { tmps := #[.slice a ps.length cap, .pointer (some ⟨w.heap.size, 0, none⟩), .pointer (some ⟨w.heap.size + 1, 0, none⟩), .pointer (some ⟨gj, 0, none⟩), .pointer (some ⟨gt, 0, none⟩), .int .i64 i, .pointer (some ⟨gs, 0, none⟩), .slice a ps.length cap, .func (.func 96) #[] #[.pointer (some ⟨B, 0, none⟩)], .int .i64 (k : Int), .agg #[.int .i64 y0, .int .i64 y1, .int .i64 y2, .int .i64 y3], .pointer (some ⟨gt, 0, none⟩), .agg #[.int .i64 y0, .int .i64 y1], .pointer (some ⟨gt, 2, none⟩), .agg #[.int .i64 y2, .int .i64 y3], .bool false, .slice a ps.length cap, .func (.func 96) #[] #[.pointer (some ⟨B2, 0, none⟩)], .int .i64 i, .agg #[.int .i64 (pt ps i).1, .int .i64 (pt ps i).2, .int .i64 (pt ps (i + 1)).1, .int .i64 (pt ps (i + 1)).2], undef, undef, undef, undef, undef, undef, undef, undef, undef, undef, undef], defers := [] } ∧ HK w 0 A [(gs, [.int .i64 (pt ps i).1, .int .i64 (pt ps i).2, .int .i64 (pt ps (i + 1)).1, .int .i64 (pt ps (i + 1)).2]), (B2, [.slice a ps.length cap]), (gt, [.int .i64 y0, .int .i64 y1, .int .i64 y2, .int .i64 y3]), (gj, [.int .i64 k]), (B, [.slice a ps.length cap]), (w.heap.size, [.slice a ps.length cap]), (w.heap.size + 1, [.bool false])] W ∧ Hid (anyTo (badM ps k) i = false))
        (fun i A W h g => ⟨h.1, h.2.1.later g, h.2.2⟩)
        (fun c i A W h g => h.imp (fun h => ⟨h.1, h.2.1.later g, h.2.2⟩) (fun h => ⟨h.1, h.2.1, h.2.2.1.later g, h.2.2.2⟩))
        (fun i A h => ⟨h.2.1.h.fact (.head _) (i := 0) rfl, HV.out.later h.2.1.h.low⟩)
        (fun i A l o o' h hl ho hc => ⟨h.1, h.2.1.putObj (by omega) (by omega) ho hc, h.2.2⟩)
        (fun c i A l o o' h hl ho hc => h.imp (fun h => ⟨h.1, h.2.1.putObj (by omega) (by omega) ho hc, h.2.2⟩) (fun h => ⟨h.1, h.2.1, h.2.2.1.putObj (by omega) (by omega) ho hc, h.2.2.2⟩))
        (fun i a' A l o o' h hl ho hc => by obtain ⟨h1, gs, e, hh, hx⟩ := h; exact ⟨h1, gs, e, hh.putObj (by omega) (by omega) ho hc, hx⟩) ⟨Nat.zero_le _, E, Lib.hid rfl⟩ ?assign ?body ?done ?stop
      case assign =>
        rintro l i A2 T hi ⟨hik, hJ, hX2⟩ hT
        generalize (pt ps i).1 = x0 at *
        generalize (pt ps i).2 = x1 at *
        generalize (pt ps (i + 1)).1 = x2 at *
        generalize (pt ps (i + 1)).2 = x3 at *
        gi_wp2_with fail
        have E3 := hJ.push [.int .i64 x0, .int .i64 x1, .int .i64 x2, .int .i64 x3] 102
        exact hT _ _ (keeps_grows ((Below.refl _ A2).alloc (Nat.le_refl _) _)) ⟨hik, _, rfl, E3, hX2⟩
      case done =>
        rintro A2 ⟨hik, -, -⟩
        omega
      case stop =>
        rintro c i A2 hi (⟨rfl, hJ, hX2⟩ | ⟨rfl, hik, hJ, hX2⟩)
        · gi_wp2_with fail
          exact ⟨keeps_mono hJ.k (Nat.zero_le _), hJ.h.tail.tail.tail, Lib.hid (anyTo_no hX.out (by unfold badS; rw [HQ.out, hX2.out]; rfl))⟩
        · gi_wp2_with fail
          exact ⟨keeps_mono hJ.k (Nat.zero_le _), rfl, (hJ.perm (Mid _ _ _ _ _ _)).h.tail.tail.tail, Lib.hid (by unfold badS; rw [HQ.out, ← anyTo_yes hX2.out hik]; rfl)⟩
      case body =>
        rintro l2 i a' A2 hl2 - ⟨hik, gs, rfl, hJ, hX2⟩ hi
        have hm : lmK ps i k = lmeet (pt ps i).1 (pt ps i).2 (pt ps (i + 1)).1 (pt ps (i + 1)).2 y0 y1 y2 y3 := by unfold lmK; rw [HY0.out, HY1.out, HY2.out, HY3.out]
        obtain ⟨X, hXX⟩ : ∃ X, lmK ps i k = X := ⟨_, rfl⟩
        obtain ⟨Wt, hWt⟩ : ∃ X, wantP ps i k = X := ⟨_, rfl⟩
        have hb : badM ps k i = decide (X ≠ Wt) := by unfold badM; rw [hXX, hWt]
        rw [hXX] at hm
        generalize (pt ps i).1 = x0 at *
        generalize (pt ps i).2 = x1 at *
        generalize (pt ps (i + 1)).1 = x2 at *
        generalize (pt ps (i + 1)).2 = x3 at *
        have HM := Lib.hid hm.symm
        have HW := Lib.hid hWt
        clear hm hWt hXX
        have k8 := hJ.h.tail.tail.tail.fact (.head _) (i := 0) rfl
        by_cases hlt : i < k
        · have f1 : ((i : Int) == (k : Int)) = false := by rw [beq_eq_false_iff_ne]; omega
          have X0 := (HK.start (B := 0) hJ.h).drew
          gi_wp2_with fail
          clear k8
          by_cases hxw : X = Wt
          · subst hxw
            have ms1 := Lib.hid (show ∀ w', Has w [(gs, [.int .i64 x0, .int .i64 x1, .int .i64 x2, .int .i64 x3]), (B2, [.slice a ps.length cap]), (gt, [.int .i64 y0, .int .i64 y1, .int .i64 y2, .int .i64 y3]), (gj, [.int .i64 k]), (B, [.slice a ps.length cap]), (w.heap.size, [.slice a ps.length cap]), (w.heap.size + 1, [.bool false])] w' → (w'.cell? ⟨gs, 0, none⟩ = some (.int .i64 x0) ∧ w'.cell? ⟨gs, 1, none⟩ = some (.int .i64 x1) ∧ w'.cell? ⟨gs, 2, none⟩ = some (.int .i64 x2) ∧ w'.cell? ⟨gs, 3, none⟩ = some (.int .i64 x3) ∧ w'.cell? ⟨B2, 0, none⟩ = some (.slice a ps.length cap) ∧ w'.cell? ⟨gt, 0, none⟩ = some (.int .i64 y0) ∧ w'.cell? ⟨gt, 1, none⟩ = some (.int .i64 y1) ∧ w'.cell? ⟨gt, 2, none⟩ = some (.int .i64 y2) ∧ w'.cell? ⟨gt, 3, none⟩ = some (.int .i64 y3) ∧ w'.cell? ⟨gj, 0, none⟩ = some (.int .i64 k) ∧ w'.cell? ⟨B, 0, none⟩ = some (.slice a ps.length cap) ∧ w'.cell? ⟨w.heap.size, 0, none⟩ = some (.slice a ps.length cap) ∧ w'.cell? ⟨w.heap.size + 1, 0, none⟩ = some (.bool false)) ∧ Has w [(gs, [.int .i64 x0, .int .i64 x1, .int .i64 x2, .int .i64 x3]), (B2, [.slice a ps.length cap]), (gt, [.int .i64 y0, .int .i64 y1, .int .i64 y2, .int .i64 y3]), (gj, [.int .i64 k]), (B, [.slice a ps.length cap]), (w.heap.size, [.slice a ps.length cap]), (w.heap.size + 1, [.bool false])] w' from fun w' h => by
              exact ⟨⟨h.fact (.head _) (i := 0) rfl, h.fact (.head _) (i := 1) rfl, h.fact (.head _) (i := 2) rfl, h.fact (.head _) (i := 3) rfl, h.tail.fact (.head _) (i := 0) rfl, h.tail.tail.fact (.head _) (i := 0) rfl, h.tail.tail.fact (.head _) (i := 1) rfl, h.tail.tail.fact (.head _) (i := 2) rfl, h.tail.tail.fact (.head _) (i := 3) rfl, h.tail.tail.tail.fact (.head _) (i := 0) rfl, h.tail.tail.tail.tail.fact (.head _) (i := 0) rfl, h.tail.tail.tail.tail.tail.fact (.head _) (i := 0) rfl, h.tail.tail.tail.tail.tail.tail.fact (.head _) (i := 0) rfl⟩, h⟩)
            refine region_calm (S := (fun w' => (w'.cell? ⟨gs, 0, none⟩ = some (.int .i64 x0) ∧ w'.cell? ⟨gs, 1, none⟩ = some (.int .i64 x1) ∧ w'.cell? ⟨gs, 2, none⟩ = some (.int .i64 x2) ∧ w'.cell? ⟨gs, 3, none⟩ = some (.int .i64 x3) ∧ w'.cell? ⟨B2, 0, none⟩ = some (.slice a ps.length cap) ∧ w'.cell? ⟨gt, 0, none⟩ = some (.int .i64 y0) ∧ w'.cell? ⟨gt, 1, none⟩ = some (.int .i64 y1) ∧ w'.cell? ⟨gt, 2, none⟩ = some (.int .i64 y2) ∧ w'.cell? ⟨gt, 3, none⟩ = some (.int .i64 y3) ∧ w'.cell? ⟨gj, 0, none⟩ = some (.int .i64 k) ∧ w'.cell? ⟨B, 0, none⟩ = some (.slice a ps.length cap) ∧ w'.cell? ⟨w.heap.size, 0, none⟩ = some (.slice a ps.length cap) ∧ w'.cell? ⟨w.heap.size + 1, 0, none⟩ = some (.bool false)) ∧ Has w [(gs, [.int .i64 x0, .int .i64 x1, .int .i64 x2, .int .i64 x3]), (B2, [.slice a ps.length cap]), (gt, [.int .i64 y0, .int .i64 y1, .int .i64 y2, .int .i64 y3]), (gj, [.int .i64 k]), (B, [.slice a ps.length cap]), (w.heap.size, [.slice a ps.length cap]), (w.heap.size + 1, [.bool false])] w')) (by kernel_rfl) (defers_none _ (by kernel_rfl)) (ms1.out _ X0.h) (fun hHeld => ?_)
            refine wpAnyT_begin [0, 1, 3, 4, 5] (by kernel_rfl) (by kernel_rfl) ?_
            refine wpAnyT_take (oi := ⟨some 23, Op.load 102 (Operand.tmp 6), 102, _, _, none⟩) (v := .agg #[.int .i64 x0, .int .i64 x1, .int .i64 x2, .int .i64 x3]) rfl (fun _ _ _ h => h) (by rfl) (by assumption) (fun wS hSw => ?_) ?_
            · (try dsimp only at hSw); go_simp
            simp only [Act.put, List.setIfInBounds_toArray, List.set_cons_zero, List.set_cons_succ]
            refine wpAnyT_take (oi := ⟨some 24, Op.load 102 (Operand.tmp 4), 102, _, _, none⟩) (v := .agg #[.int .i64 y0, .int .i64 y1, .int .i64 y2, .int .i64 y3]) rfl (fun _ _ _ h => h) (by rfl) (by assumption) (fun wS hSw => ?_) ?_
            · (try dsimp only at hSw); go_simp
            simp only [Act.put, List.setIfInBounds_toArray, List.set_cons_zero, List.set_cons_succ]
            refine wpAnyT_take (oi := ⟨some 26, Op.load 25 (Operand.tmp 1), 25, _, _, none⟩) (v := .slice a ps.length cap) rfl (fun _ _ _ h => h) (by rfl) (by assumption) (fun wS hSw => ?_) ?_
            · (try dsimp only at hSw); go_simp
            simp only [Act.put, List.setIfInBounds_toArray, List.set_cons_zero, List.set_cons_succ]
            refine wpAnyT_take (oi := ⟨some 27, Op.move (Operand.tmp 5), 3, _, _, none⟩) (v := .int .i64 i) rfl (fun _ _ _ h => h) (by rfl) (by assumption) (fun wS hSw => ?_) ?_
            · (try dsimp only at hSw); go_simp
            simp only [Act.put, List.setIfInBounds_toArray, List.set_cons_zero, List.set_cons_succ]
            refine wpAnyT_take (oi := ⟨some 28, Op.load 3 (Operand.tmp 3), 3, _, _, none⟩) (v := .int .i64 k) rfl (fun _ _ _ h => h) (by rfl) (by assumption) (fun wS hSw => ?_) ?_
            · (try dsimp only at hSw); go_simp
            simp only [Act.put, List.setIfInBounds_toArray, List.set_cons_zero, List.set_cons_succ]
            refine wpAnyT_end ?_
            refine wpAnyH_listed #[true, true, false, true, true, true, false, false] (by kernel_rfl) ?_
            refine wpAnyH_ready (rs := [2]) (by kernel_rfl) (by simp) ?_
            refine AllReadyH.cons (o := ⟨some 25, Op.call { callee := Callee.value (Operand.func 82), args := #[Operand.tmp 23, Operand.tmp 24], argTypes := #[102, 102] }, 3, _, _, none⟩) rfl (fun K hK => ?_) AllReadyH.nil
            go_simp
            go_at_call 82
            refine (HK.call X0 (lmeet_is _ _ _ _ _ _ _ _ _ HM.out _)).mono ?_
            rintro e A3 ⟨rfl, X1⟩
            go_wp2_with fail
            clear hHeld
            refine hK.out _ _ (ms1.out _ X1.h) (fun hHeld => ?_)
            clear hK K
            try simp only [List.setIfInBounds_toArray, List.set_cons_zero, List.set_cons_succ]
            refine wpAnyH_listed #[true, true, true, true, true, true, false, false] (by kernel_rfl) ?_
            refine wpAnyH_ready (rs := [6]) (by kernel_rfl) (by simp) ?_
            refine AllReadyH.cons (o := ⟨some 29, Op.call { callee := Callee.value (Operand.func 83), args := #[Operand.tmp 26, Operand.tmp 27, Operand.tmp 28], argTypes := #[25, 3, 3] }, 3, _, _, none⟩) rfl (fun K hK => ?_) AllReadyH.nil
            go_simp
            go_at_call 83
            refine (HK.call X1 (joints_is _ ps i k _ (HV.out.later X1.h.low) (by omega) (by omega) (by omega) _ HW.out)).mono ?_
            rintro e A4 ⟨rfl, X2⟩
            go_wp2_with fail
            clear hHeld
            refine hK.out _ _ (ms1.out _ X2.h) (fun hHeld => ?_)
            clear hK K
            try simp only [List.setIfInBounds_toArray, List.set_cons_zero, List.set_cons_succ]
            refine wpAnyH_listed #[true, true, true, true, true, true, true, false] (by kernel_rfl) ?_
            refine wpAnyT_begin [7] (by kernel_rfl) (by kernel_rfl) ?_
            refine wpAnyT_take (oi := ⟨some 30, Op.binOp BinOp.neq 3 (Operand.tmp 25) (Operand.tmp 29) 3, 4, _, _, none⟩) (v := .bool false) rfl (fun _ _ _ h => h) (by rfl) (by assumption) (fun wS hSw => ?_) ?_
            · (try dsimp only at hSw); go_simp
            simp only [Act.put, List.setIfInBounds_toArray, List.set_cons_zero, List.set_cons_succ]
            refine wpAnyT_end ?_
            refine wpAnyH_listed #[true, true, true, true, true, true, true, true] (by kernel_rfl) ?_
            refine wpAnyH_done (by kernel_rfl) ?_ _
            refine Calm.normal ?_
            clear hHeld
            gi_wp2_with fail
            exact ⟨keeps_mono X2.k (Nat.zero_le _), by omega, ⟨X2.h.tail, hJ.k.trans X2.k⟩, Lib.hid (anyTo_no hX2.out (by rw [hb]; simp))⟩
          · have g1 : (X == Wt) = false := by rw [beq_eq_false_iff_ne]; exact hxw
            have g2 : (X != Wt) = true := by rw [bne_iff_ne]; exact hxw
            have ms1 := Lib.hid (show ∀ w', Has w [(gs, [.int .i64 x0, .int .i64 x1, .int .i64 x2, .int .i64 x3]), (B2, [.slice a ps.length cap]), (gt, [.int .i64 y0, .int .i64 y1, .int .i64 y2, .int .i64 y3]), (gj, [.int .i64 k]), (B, [.slice a ps.length cap]), (w.heap.size, [.slice a ps.length cap]), (w.heap.size + 1, [.bool false])] w' → (w'.cell? ⟨gs, 0, none⟩ = some (.int .i64 x0) ∧ w'.cell? ⟨gs, 1, none⟩ = some (.int .i64 x1) ∧ w'.cell? ⟨gs, 2, none⟩ = some (.int .i64 x2) ∧ w'.cell? ⟨gs, 3, none⟩ = some (.int .i64 x3) ∧ w'.cell? ⟨B2, 0, none⟩ = some (.slice a ps.length cap) ∧ w'.cell? ⟨gt, 0, none⟩ = some (.int .i64 y0) ∧ w'.cell? ⟨gt, 1, none⟩ = some (.int .i64 y1) ∧ w'.cell? ⟨gt, 2, none⟩ = some (.int .i64 y2) ∧ w'.cell? ⟨gt, 3, none⟩ = some (.int .i64 y3) ∧ w'.cell? ⟨gj, 0, none⟩ = some (.int .i64 k) ∧ w'.cell? ⟨B, 0, none⟩ = some (.slice a ps.length cap) ∧ w'.cell? ⟨w.heap.size, 0, none⟩ = some (.slice a ps.length cap) ∧ w'.cell? ⟨w.heap.size + 1, 0, none⟩ = some (.bool false)) ∧ Has w [(gs, [.int .i64 x0, .int .i64 x1, .int .i64 x2, .int .i64 x3]), (B2, [.slice a ps.length cap]), (gt, [.int .i64 y0, .int .i64 y1, .int .i64 y2, .int .i64 y3]), (gj, [.int .i64 k]), (B, [.slice a ps.length cap]), (w.heap.size, [.slice a ps.length cap]), (w.heap.size + 1, [.bool false])] w' from fun w' h => by
              exact ⟨⟨h.fact (.head _) (i := 0) rfl, h.fact (.head _) (i := 1) rfl, h.fact (.head _) (i := 2) rfl, h.fact (.head _) (i := 3) rfl, h.tail.fact (.head _) (i := 0) rfl, h.tail.tail.fact (.head _) (i := 0) rfl, h.tail.tail.fact (.head _) (i := 1) rfl, h.tail.tail.fact (.head _) (i := 2) rfl, h.tail.tail.fact (.head _) (i := 3) rfl, h.tail.tail.tail.fact (.head _) (i := 0) rfl, h.tail.tail.tail.tail.fact (.head _) (i := 0) rfl, h.tail.tail.tail.tail.tail.fact (.head _) (i := 0) rfl, h.tail.tail.tail.tail.tail.tail.fact (.head _) (i := 0) rfl⟩, h⟩)
            refine region_calm (S := (fun w' => (w'.cell? ⟨gs, 0, none⟩ = some (.int .i64 x0) ∧ w'.cell? ⟨gs, 1, none⟩ = some (.int .i64 x1) ∧ w'.cell? ⟨gs, 2, none⟩ = some (.int .i64 x2) ∧ w'.cell? ⟨gs, 3, none⟩ = some (.int .i64 x3) ∧ w'.cell? ⟨B2, 0, none⟩ = some (.slice a ps.length cap) ∧ w'.cell? ⟨gt, 0, none⟩ = some (.int .i64 y0) ∧ w'.cell? ⟨gt, 1, none⟩ = some (.int .i64 y1) ∧ w'.cell? ⟨gt, 2, none⟩ = some (.int .i64 y2) ∧ w'.cell? ⟨gt, 3, none⟩ = some (.int .i64 y3) ∧ w'.cell? ⟨gj, 0, none⟩ = some (.int .i64 k) ∧ w'.cell? ⟨B, 0, none⟩ = some (.slice a ps.length cap) ∧ w'.cell? ⟨w.heap.size, 0, none⟩ = some (.slice a ps.length cap) ∧ w'.cell? ⟨w.heap.size + 1, 0, none⟩ = some (.bool false)) ∧ Has w [(gs, [.int .i64 x0, .int .i64 x1, .int .i64 x2, .int .i64 x3]), (B2, [.slice a ps.length cap]), (gt, [.int .i64 y0, .int .i64 y1, .int .i64 y2, .int .i64 y3]), (gj, [.int .i64 k]), (B, [.slice a ps.length cap]), (w.heap.size, [.slice a ps.length cap]), (w.heap.size + 1, [.bool false])] w')) (by kernel_rfl) (defers_none _ (by kernel_rfl)) (ms1.out _ X0.h) (fun hHeld => ?_)
            refine wpAnyT_begin [0, 1, 3, 4, 5] (by kernel_rfl) (by kernel_rfl) ?_
            refine wpAnyT_take (oi := ⟨some 23, Op.load 102 (Operand.tmp 6), 102, _, _, none⟩) (v := .agg #[.int .i64 x0, .int .i64 x1, .int .i64 x2, .int .i64 x3]) rfl (fun _ _ _ h => h) (by rfl) (by assumption) (fun wS hSw => ?_) ?_
            · (try dsimp only at hSw); go_simp
            simp only [Act.put, List.setIfInBounds_toArray, List.set_cons_zero, List.set_cons_succ]
            refine wpAnyT_take (oi := ⟨some 24, Op.load 102 (Operand.tmp 4), 102, _, _, none⟩) (v := .agg #[.int .i64 y0, .int .i64 y1, .int .i64 y2, .int .i64 y3]) rfl (fun _ _ _ h => h) (by rfl) (by assumption) (fun wS hSw => ?_) ?_
            · (try dsimp only at hSw); go_simp
            simp only [Act.put, List.setIfInBounds_toArray, List.set_cons_zero, List.set_cons_succ]
            refine wpAnyT_take (oi := ⟨some 26, Op.load 25 (Operand.tmp 1), 25, _, _, none⟩) (v := .slice a ps.length cap) rfl (fun _ _ _ h => h) (by rfl) (by assumption) (fun wS hSw => ?_) ?_
            · (try dsimp only at hSw); go_simp
            simp only [Act.put, List.setIfInBounds_toArray, List.set_cons_zero, List.set_cons_succ]
            refine wpAnyT_take (oi := ⟨some 27, Op.move (Operand.tmp 5), 3, _, _, none⟩) (v := .int .i64 i) rfl (fun _ _ _ h => h) (by rfl) (by assumption) (fun wS hSw => ?_) ?_
            · (try dsimp only at hSw); go_simp
            simp only [Act.put, List.setIfInBounds_toArray, List.set_cons_zero, List.set_cons_succ]
            refine wpAnyT_take (oi := ⟨some 28, Op.load 3 (Operand.tmp 3), 3, _, _, none⟩) (v := .int .i64 k) rfl (fun _ _ _ h => h) (by rfl) (by assumption) (fun wS hSw => ?_) ?_
            · (try dsimp only at hSw); go_simp
            simp only [Act.put, List.setIfInBounds_toArray, List.set_cons_zero, List.set_cons_succ]
            refine wpAnyT_end ?_
            refine wpAnyH_listed #[true, true, false, true, true, true, false, false] (by kernel_rfl) ?_
            refine wpAnyH_ready (rs := [2]) (by kernel_rfl) (by simp) ?_
            refine AllReadyH.cons (o := ⟨some 25, Op.call { callee := Callee.value (Operand.func 82), args := #[Operand.tmp 23, Operand.tmp 24], argTypes := #[102, 102] }, 3, _, _, none⟩) rfl (fun K hK => ?_) AllReadyH.nil
            go_simp
            go_at_call 82
            refine (HK.call X0 (lmeet_is _ _ _ _ _ _ _ _ _ HM.out _)).mono ?_
            rintro e A3 ⟨rfl, X1⟩
            go_wp2_with fail
            clear hHeld
            refine hK.out _ _ (ms1.out _ X1.h) (fun hHeld => ?_)
            clear hK K
            try simp only [List.setIfInBounds_toArray, List.set_cons_zero, List.set_cons_succ]
            refine wpAnyH_listed #[true, true, true, true, true, true, false, false] (by kernel_rfl) ?_
            refine wpAnyH_ready (rs := [6]) (by kernel_rfl) (by simp) ?_
            refine AllReadyH.cons (o := ⟨some 29, Op.call { callee := Callee.value (Operand.func 83), args := #[Operand.tmp 26, Operand.tmp 27, Operand.tmp 28], argTypes := #[25, 3, 3] }, 3, _, _, none⟩) rfl (fun K hK => ?_) AllReadyH.nil
            go_simp
            go_at_call 83
            refine (HK.call X1 (joints_is _ ps i k _ (HV.out.later X1.h.low) (by omega) (by omega) (by omega) _ HW.out)).mono ?_
            rintro e A4 ⟨rfl, X2⟩
            go_wp2_with fail
            clear hHeld
            refine hK.out _ _ (ms1.out _ X2.h) (fun hHeld => ?_)
            clear hK K
            try simp only [List.setIfInBounds_toArray, List.set_cons_zero, List.set_cons_succ]
            refine wpAnyH_listed #[true, true, true, true, true, true, true, false] (by kernel_rfl) ?_
            refine wpAnyT_begin [7] (by kernel_rfl) (by kernel_rfl) ?_
            refine wpAnyT_take (oi := ⟨some 30, Op.binOp BinOp.neq 3 (Operand.tmp 25) (Operand.tmp 29) 3, 4, _, _, none⟩) (v := .bool true) rfl (fun _ _ _ h => h) (by rfl) (by assumption) (fun wS hSw => ?_) ?_
            · (try dsimp only at hSw); go_simp
            simp only [Act.put, List.setIfInBounds_toArray, List.set_cons_zero, List.set_cons_succ]
            refine wpAnyT_end ?_
            refine wpAnyH_listed #[true, true, true, true, true, true, true, true] (by kernel_rfl) ?_
            refine wpAnyH_done (by kernel_rfl) ?_ _
            refine Calm.normal ?_
            clear hHeld
            have k9 := X2.h.tail.tail.tail.tail.tail.tail.fact (.head _) (i := 0) rfl
            have f9 := X2.h.tail.tail.tail.tail.tail.tail.free (.head _) (i := 0) rfl
            gi_wp2_with fail
            have X3 := (HK.perm X2.tail (Mid6 _ _ _ _ _ _)).set 0 (by simp) (.bool false)
            exact ⟨keeps_mono X3.k (Nat.zero_le _), .inr ⟨rfl, ⟨X3.h, hJ.k.trans X3.k⟩, Lib.hid (by first | trivial | (rw [hb]; simp [hxw]))⟩⟩
        · obtain rfl : i = k := by omega
          gi_wp2_with fail
          exact ⟨KeepsFrom.refl _ _, rfl, hJ.tail⟩
    · subst e3
      have k5 := hI.tail.tail.tail.fact (.head _) (i := 0) rfl
      gi_wp2_with fail
      refine ⟨trivial, (round_call (segs_hk (HK.start (B := 0) hI) (HV.out.later hI.low))).mono ?_⟩
      rintro e A1 ⟨B2, rfl, E⟩
      clear k0 k1 k2 k3 k5 e1
      gi_wp2_with fail
      have hA1 : A.heap.size ≤ A1.heap.size := E.k.size
      have hwA : w.heap.size ≤ A1.heap.size := E.h.low.size
      refine range_sqN (l₀ := l) (r₀ := r0) (K := ps.length - 1) (enc := fun i => #[.int .i64 i, .agg #[.int .i64 (pt ps i).1, .int .i64 (pt ps i).2, .int .i64 (pt ps (i + 1)).1, .int .i64 (pt ps (i + 1)).2]]) (Lv := fun W => W.cell? ⟨B2, 0, none⟩ = some (.slice a ps.length cap) ∧ RowP W (.slice a ps.length cap) ps) (w0 := w) (E.k.same l _ (Nat.zero_le _) hr0 rfl) rfl (enters_of Try.func96 (by kernel_rfl) rfl) (seg_seq _ ps (.slice a ps.length cap) B2 w) E.h.low (fun _ => rfl)
        (fun i W => i ≤ k ∧ HK w 0 A [(B2, [.slice a ps.length cap]), (gt, [.int .i64 y0, .int .i64 y1, .int .i64 y2, .int .i64 y3]), (gj, [.int .i64 k]), (B, [.slice a ps.length cap]), (w.heap.size, [.slice a ps.length cap]), (w.heap.size + 1, [.bool false])] W ∧ Hid (anyTo (badM ps k) i = false))
        (fun c i W => (c = .exit 1 ∧ HK w 0 A [(B2, [.slice a ps.length cap]), (gt, [.int .i64 y0, .int .i64 y1, .int .i64 y2, .int .i64 y3]), (gj, [.int .i64 k]), (B, [.slice a ps.length cap]), (w.heap.size, [.slice a ps.length cap]), (w.heap.size + 1, [.bool false])] W ∧ Hid (anyTo (badM ps k) k = false)) ∨ (c = .ret ∧ i < k ∧ HK w 0 A [(w.heap.size + 1, [.bool false]), (B2, [.slice a ps.length cap]), (gt, [.int .i64 y0, .int .i64 y1, .int .i64 y2, .int .i64 y3]), (gj, [.int .i64 k]), (B, [.slice a ps.length cap]), (w.heap.size, [.slice a ps.length cap])] W ∧ Hid (badM ps k i = true)))
        (fun i a' W => i ≤ k ∧ ∃ gs, a' = { tmps := #[.slice a ps.length cap, .pointer (some ⟨w.heap.size, 0, none⟩), .pointer (some ⟨w.heap.size + 1, 0, none⟩), .pointer (some ⟨gj, 0, none⟩), .pointer (some ⟨gt, 0, none⟩), .int .i64 i, .pointer (some ⟨gs, 0, none⟩), .slice a ps.length cap, .func (.func 96) #[] #[.pointer (some ⟨B, 0, none⟩)], .int .i64 (k : Int), .agg #[.int .i64 y0, .int .i64 y1, .int .i64 y2, .int .i64 y3], .pointer (some ⟨gt, 0, none⟩), .agg #[.int .i64 y0, .int .i64 y1], .pointer (some ⟨gt, 2, none⟩), .agg #[.int .i64 y2, .int .i64 y3], .bool false, .slice a ps.length cap, .func (.func 96) #[] #[.pointer (some ⟨B2, 0, none⟩)], .int .i64 i, .agg #[.int .i64 (pt ps i).1, .int .i64 (pt ps i).2, .int .i64 (pt ps (i + 1)).1, .int .i64 (pt ps (i + 1)).2], undef, undef, undef, undef, undef, undef, undef, undef, undef, undef, undef], defers := [] } ∧ HK w 0 A [(gs, [.int .i64 (pt ps i).1, .int .i64 (pt ps i).2, .int .i64 (pt ps (i + 1)).1, .int .i64 (pt ps (i + 1)).2]), (B2, [.slice a ps.length cap]), (gt, [.int .i64 y0, .int .i64 y1, .int .i64 y2, .int .i64 y3]), (gj, [.int .i64 k]), (B, [.slice a ps.length cap]), (w.heap.size, [.slice a ps.length cap]), (w.heap.size + 1, [.bool false])] W ∧ Hid (anyTo (badM ps k) i = false))
        (fun i A W h g => ⟨h.1, h.2.1.later g, h.2.2⟩)
        (fun c i A W h g => h.imp (fun h => ⟨h.1, h.2.1.later g, h.2.2⟩) (fun h => ⟨h.1, h.2.1, h.2.2.1.later g, h.2.2.2⟩))
        (fun i A h => ⟨h.2.1.h.fact (.head _) (i := 0) rfl, HV.out.later h.2.1.h.low⟩)
        (fun i A l o o' h hl ho hc => ⟨h.1, h.2.1.putObj (by omega) (by omega) ho hc, h.2.2⟩)
        (fun c i A l o o' h hl ho hc => h.imp (fun h => ⟨h.1, h.2.1.putObj (by omega) (by omega) ho hc, h.2.2⟩) (fun h => ⟨h.1, h.2.1, h.2.2.1.putObj (by omega) (by omega) ho hc, h.2.2.2⟩))
        (fun i a' A l o o' h hl ho hc => by obtain ⟨h1, gs, e, hh, hx⟩ := h; exact ⟨h1, gs, e, hh.putObj (by omega) (by omega) ho hc, hx⟩) ⟨Nat.zero_le _, E, Lib.hid rfl⟩ ?assign ?body ?done ?stop
      case assign =>
        rintro l i A2 T hi ⟨hik, hJ, hX2⟩ hT
        generalize (pt ps i).1 = x0 at *
        generalize (pt ps i).2 = x1 at *
        generalize (pt ps (i + 1)).1 = x2 at *
        generalize (pt ps (i + 1)).2 = x3 at *
        gi_wp2_with fail
        have E3 := hJ.push [.int .i64 x0, .int .i64 x1, .int .i64 x2, .int .i64 x3] 102
        exact hT _ _ (keeps_grows ((Below.refl _ A2).alloc (Nat.le_refl _) _)) ⟨hik, _, rfl, E3, hX2⟩
      case done =>
        rintro A2 ⟨hik, -, -⟩
        omega
      case stop =>
        rintro c i A2 hi (⟨rfl, hJ, hX2⟩ | ⟨rfl, hik, hJ, hX2⟩)
        · gi_wp2_with fail
          exact ⟨keeps_mono hJ.k (Nat.zero_le _), hJ.h.tail.tail.tail, Lib.hid (anyTo_no hX.out (by unfold badS; rw [HQ.out, hX2.out]; rfl))⟩
        · gi_wp2_with fail
          exact ⟨keeps_mono hJ.k (Nat.zero_le _), rfl, (hJ.perm (Mid _ _ _ _ _ _)).h.tail.tail.tail, Lib.hid (by unfold badS; rw [HQ.out, ← anyTo_yes hX2.out hik]; rfl)⟩
      case body =>
        rintro l2 i a' A2 hl2 - ⟨hik, gs, rfl, hJ, hX2⟩ hi
        have hm : lmK ps i k = lmeet (pt ps i).1 (pt ps i).2 (pt ps (i + 1)).1 (pt ps (i + 1)).2 y0 y1 y2 y3 := by unfold lmK; rw [HY0.out, HY1.out, HY2.out, HY3.out]
        obtain ⟨X, hXX⟩ : ∃ X, lmK ps i k = X := ⟨_, rfl⟩
        obtain ⟨Wt, hWt⟩ : ∃ X, wantP ps i k = X := ⟨_, rfl⟩
        have hb : badM ps k i = decide (X ≠ Wt) := by unfold badM; rw [hXX, hWt]
        rw [hXX] at hm
        generalize (pt ps i).1 = x0 at *
        generalize (pt ps i).2 = x1 at *
        generalize (pt ps (i + 1)).1 = x2 at *
        generalize (pt ps (i + 1)).2 = x3 at *
        have HM := Lib.hid hm.symm
        have HW := Lib.hid hWt
        clear hm hWt hXX
        have k8 := hJ.h.tail.tail.tail.fact (.head _) (i := 0) rfl
        by_cases hlt : i < k
        · have f1 : ((i : Int) == (k : Int)) = false := by rw [beq_eq_false_iff_ne]; omega
          have X0 := (HK.start (B := 0) hJ.h).drew
          gi_wp2_with fail
          clear k8
          by_cases hxw : X = Wt
          · subst hxw
            have ms1 := Lib.hid (show ∀ w', Has w [(gs, [.int .i64 x0, .int .i64 x1, .int .i64 x2, .int .i64 x3]), (B2, [.slice a ps.length cap]), (gt, [.int .i64 y0, .int .i64 y1, .int .i64 y2, .int .i64 y3]), (gj, [.int .i64 k]), (B, [.slice a ps.length cap]), (w.heap.size, [.slice a ps.length cap]), (w.heap.size + 1, [.bool false])] w' → (w'.cell? ⟨gs, 0, none⟩ = some (.int .i64 x0) ∧ w'.cell? ⟨gs, 1, none⟩ = some (.int .i64 x1) ∧ w'.cell? ⟨gs, 2, none⟩ = some (.int .i64 x2) ∧ w'.cell? ⟨gs, 3, none⟩ = some (.int .i64 x3) ∧ w'.cell? ⟨B2, 0, none⟩ = some (.slice a ps.length cap) ∧ w'.cell? ⟨gt, 0, none⟩ = some (.int .i64 y0) ∧ w'.cell? ⟨gt, 1, none⟩ = some (.int .i64 y1) ∧ w'.cell? ⟨gt, 2, none⟩ = some (.int .i64 y2) ∧ w'.cell? ⟨gt, 3, none⟩ = some (.int .i64 y3) ∧ w'.cell? ⟨gj, 0, none⟩ = some (.int .i64 k) ∧ w'.cell? ⟨B, 0, none⟩ = some (.slice a ps.length cap) ∧ w'.cell? ⟨w.heap.size, 0, none⟩ = some (.slice a ps.length cap) ∧ w'.cell? ⟨w.heap.size + 1, 0, none⟩ = some (.bool false)) ∧ Has w [(gs, [.int .i64 x0, .int .i64 x1, .int .i64 x2, .int .i64 x3]), (B2, [.slice a ps.length cap]), (gt, [.int .i64 y0, .int .i64 y1, .int .i64 y2, .int .i64 y3]), (gj, [.int .i64 k]), (B, [.slice a ps.length cap]), (w.heap.size, [.slice a ps.length cap]), (w.heap.size + 1, [.bool false])] w' from fun w' h => by
              exact ⟨⟨h.fact (.head _) (i := 0) rfl, h.fact (.head _) (i := 1) rfl, h.fact (.head _) (i := 2) rfl, h.fact (.head _) (i := 3) rfl, h.tail.fact (.head _) (i := 0) rfl, h.tail.tail.fact (.head _) (i := 0) rfl, h.tail.tail.fact (.head _) (i := 1) rfl, h.tail.tail.fact (.head _) (i := 2) rfl, h.tail.tail.fact (.head _) (i := 3) rfl, h.tail.tail.tail.fact (.head _) (i := 0) rfl, h.tail.tail.tail.tail.fact (.head _) (i := 0) rfl, h.tail.tail.tail.tail.tail.fact (.head _) (i := 0) rfl, h.tail.tail.tail.tail.tail.tail.fact (.head _) (i := 0) rfl⟩, h⟩)
            refine region_calm (S := (fun w' => (w'.cell? ⟨gs, 0, none⟩ = some (.int .i64 x0) ∧ w'.cell? ⟨gs, 1, none⟩ = some (.int .i64 x1) ∧ w'.cell? ⟨gs, 2, none⟩ = some (.int .i64 x2) ∧ w'.cell? ⟨gs, 3, none⟩ = some (.int .i64 x3) ∧ w'.cell? ⟨B2, 0, none⟩ = some (.slice a ps.length cap) ∧ w'.cell? ⟨gt, 0, none⟩ = some (.int .i64 y0) ∧ w'.cell? ⟨gt, 1, none⟩ = some (.int .i64 y1) ∧ w'.cell? ⟨gt, 2, none⟩ = some (.int .i64 y2) ∧ w'.cell? ⟨gt, 3, none⟩ = some (.int .i64 y3) ∧ w'.cell? ⟨gj, 0, none⟩ = some (.int .i64 k) ∧ w'.cell? ⟨B, 0, none⟩ = some (.slice a ps.length cap) ∧ w'.cell? ⟨w.heap.size, 0, none⟩ = some (.slice a ps.length cap) ∧ w'.cell? ⟨w.heap.size + 1, 0, none⟩ = some (.bool false)) ∧ Has w [(gs, [.int .i64 x0, .int .i64 x1, .int .i64 x2, .int .i64 x3]), (B2, [.slice a ps.length cap]), (gt, [.int .i64 y0, .int .i64 y1, .int .i64 y2, .int .i64 y3]), (gj, [.int .i64 k]), (B, [.slice a ps.length cap]), (w.heap.size, [.slice a ps.length cap]), (w.heap.size + 1, [.bool false])] w')) (by kernel_rfl) (defers_none _ (by kernel_rfl)) (ms1.out _ X0.h) (fun hHeld => ?_)
            refine wpAnyT_begin [0, 1, 3, 4, 5] (by kernel_rfl) (by kernel_rfl) ?_
            refine wpAnyT_take (oi := ⟨some 23, Op.load 102 (Operand.tmp 6), 102, _, _, none⟩) (v := .agg #[.int .i64 x0, .int .i64 x1, .int .i64 x2, .int .i64 x3]) rfl (fun _ _ _ h => h) (by rfl) (by assumption) (fun wS hSw => ?_) ?_
            · (try dsimp only at hSw); go_simp
            simp only [Act.put, List.setIfInBounds_toArray, List.set_cons_zero, List.set_cons_succ]
            refine wpAnyT_take (oi := ⟨some 24, Op.load 102 (Operand.tmp 4), 102, _, _, none⟩) (v := .agg #[.int .i64 y0, .int .i64 y1, .int .i64 y2, .int .i64 y3]) rfl (fun _ _ _ h => h) (by rfl) (by assumption) (fun wS hSw => ?_) ?_
            · (try dsimp only at hSw); go_simp
            simp only [Act.put, List.setIfInBounds_toArray, List.set_cons_zero, List.set_cons_succ]
            refine wpAnyT_take (oi := ⟨some 26, Op.load 25 (Operand.tmp 1), 25, _, _, none⟩) (v := .slice a ps.length cap) rfl (fun _ _ _ h => h) (by rfl) (by assumption) (fun wS hSw => ?_) ?_
            · (try dsimp only at hSw); go_simp
            simp only [Act.put, List.setIfInBounds_toArray, List.set_cons_zero, List.set_cons_succ]
            refine wpAnyT_take (oi := ⟨some 27, Op.move (Operand.tmp 5), 3, _, _, none⟩) (v := .int .i64 i) rfl (fun _ _ _ h => h) (by rfl) (by assumption) (fun wS hSw => ?_) ?_
            · (try dsimp only at hSw); go_simp
            simp only [Act.put, List.setIfInBounds_toArray, List.set_cons_zero, List.set_cons_succ]
            refine wpAnyT_take (oi := ⟨some 28, Op.load 3 (Operand.tmp 3), 3, _, _, none⟩) (v := .int .i64 k) rfl (fun _ _ _ h => h) (by rfl) (by assumption) (fun wS hSw => ?_) ?_
            · (try dsimp only at hSw); go_simp
            simp only [Act.put, List.setIfInBounds_toArray, List.set_cons_zero, List.set_cons_succ]
            refine wpAnyT_end ?_
            refine wpAnyH_listed #[true, true, false, true, true, true, false, false] (by kernel_rfl) ?_
            refine wpAnyH_ready (rs := [2]) (by kernel_rfl) (by simp) ?_
            refine AllReadyH.cons (o := ⟨some 25, Op.call { callee := Callee.value (Operand.func 82), args := #[Operand.tmp 23, Operand.tmp 24], argTypes := #[102, 102] }, 3, _, _, none⟩) rfl (fun K hK => ?_) AllReadyH.nil
            go_simp
            go_at_call 82
            refine (HK.call X0 (lmeet_is _ _ _ _ _ _ _ _ _ HM.out _)).mono ?_
            rintro e A3 ⟨rfl, X1⟩
            go_wp2_with fail
            clear hHeld
            refine hK.out _ _ (ms1.out _ X1.h) (fun hHeld => ?_)
            clear hK K
            try simp only [List.setIfInBounds_toArray, List.set_cons_zero, List.set_cons_succ]
            refine wpAnyH_listed #[true, true, true, true, true, true, false, false] (by kernel_rfl) ?_
            refine wpAnyH_ready (rs := [6]) (by kernel_rfl) (by simp) ?_
            refine AllReadyH.cons (o := ⟨some 29, Op.call { callee := Callee.value (Operand.func 83), args := #[Operand.tmp 26, Operand.tmp 27, Operand.tmp 28], argTypes := #[25, 3, 3] }, 3, _, _, none⟩) rfl (fun K hK => ?_) AllReadyH.nil
            go_simp
            go_at_call 83
            refine (HK.call X1 (joints_is _ ps i k _ (HV.out.later X1.h.low) (by omega) (by omega) (by omega) _ HW.out)).mono ?_
            rintro e A4 ⟨rfl, X2⟩
            go_wp2_with fail
            clear hHeld
            refine hK.out _ _ (ms1.out _ X2.h) (fun hHeld => ?_)
            clear hK K
            try simp only [List.setIfInBounds_toArray, List.set_cons_zero, List.set_cons_succ]
            refine wpAnyH_listed #[true, true, true, true, true, true, true, false] (by kernel_rfl) ?_
            refine wpAnyT_begin [7] (by kernel_rfl) (by kernel_rfl) ?_
            refine wpAnyT_take (oi := ⟨some 30, Op.binOp BinOp.neq 3 (Operand.tmp 25) (Operand.tmp 29) 3, 4, _, _, none⟩) (v := .bool false) rfl (fun _ _ _ h => h) (by rfl) (by assumption) (fun wS hSw => ?_) ?_
            · (try dsimp only at hSw); go_simp
            simp only [Act.put, List.setIfInBounds_toArray, List.set_cons_zero, List.set_cons_succ]
            refine wpAnyT_end ?_
            refine wpAnyH_listed #[true, true, true, true, true, true, true, true] (by kernel_rfl) ?_
            refine wpAnyH_done (by kernel_rfl) ?_ _
            refine Calm.normal ?_
            clear hHeld
            gi_wp2_with fail
            exact ⟨keeps_mono X2.k (Nat.zero_le _), by omega, ⟨X2.h.tail, hJ.k.trans X2.k⟩, Lib.hid (anyTo_no hX2.out (by rw [hb]; simp))⟩
          · have g1 : (X == Wt) = false := by rw [beq_eq_false_iff_ne]; exact hxw
            have g2 : (X != Wt) = true := by rw [bne_iff_ne]; exact hxw
            have ms1 := Lib.hid (show ∀ w', Has w [(gs, [.int .i64 x0, .int .i64 x1, .int .i64 x2, .int .i64 x3]), (B2, [.slice a ps.length cap]), (gt, [.int .i64 y0, .int .i64 y1, .int .i64 y2, .int .i64 y3]), (gj, [.int .i64 k]), (B, [.slice a ps.length cap]), (w.heap.size, [.slice a ps.length cap]), (w.heap.size + 1, [.bool false])] w' → (w'.cell? ⟨gs, 0, none⟩ = some (.int .i64 x0) ∧ w'.cell? ⟨gs, 1, none⟩ = some (.int .i64 x1) ∧ w'.cell? ⟨gs, 2, none⟩ = some (.int .i64 x2) ∧ w'.cell? ⟨gs, 3, none⟩ = some (.int .i64 x3) ∧ w'.cell? ⟨B2, 0, none⟩ = some (.slice a ps.length cap) ∧ w'.cell? ⟨gt, 0, none⟩ = some (.int .i64 y0) ∧ w'.cell? ⟨gt, 1, none⟩ = some (.int .i64 y1) ∧ w'.cell? ⟨gt, 2, none⟩ = some (.int .i64 y2) ∧ w'.cell? ⟨gt, 3, none⟩ = some (.int .i64 y3) ∧ w'.cell? ⟨gj, 0, none⟩ = some (.int .i64 k) ∧ w'.cell? ⟨B, 0, none⟩ = some (.slice a ps.length cap) ∧ w'.cell? ⟨w.heap.size, 0, none⟩ = some (.slice a ps.length cap) ∧ w'.cell? ⟨w.heap.size + 1, 0, none⟩ = some (.bool false)) ∧ Has w [(gs, [.int .i64 x0, .int .i64 x1, .int .i64 x2, .int .i64 x3]), (B2, [.slice a ps.length cap]), (gt, [.int .i64 y0, .int .i64 y1, .int .i64 y2, .int .i64 y3]), (gj, [.int .i64 k]), (B, [.slice a ps.length cap]), (w.heap.size, [.slice a ps.length cap]), (w.heap.size + 1, [.bool false])] w' from fun w' h => by
              exact ⟨⟨h.fact (.head _) (i := 0) rfl, h.fact (.head _) (i := 1) rfl, h.fact (.head _) (i := 2) rfl, h.fact (.head _) (i := 3) rfl, h.tail.fact (.head _) (i := 0) rfl, h.tail.tail.fact (.head _) (i := 0) rfl, h.tail.tail.fact (.head _) (i := 1) rfl, h.tail.tail.fact (.head _) (i := 2) rfl, h.tail.tail.fact (.head _) (i := 3) rfl, h.tail.tail.tail.fact (.head _) (i := 0) rfl, h.tail.tail.tail.tail.fact (.head _) (i := 0) rfl, h.tail.tail.tail.tail.tail.fact (.head _) (i := 0) rfl, h.tail.tail.tail.tail.tail.tail.fact (.head _) (i := 0) rfl⟩, h⟩)
            refine region_calm (S := (fun w' => (w'.cell? ⟨gs, 0, none⟩ = some (.int .i64 x0) ∧ w'.cell? ⟨gs, 1, none⟩ = some (.int .i64 x1) ∧ w'.cell? ⟨gs, 2, none⟩ = some (.int .i64 x2) ∧ w'.cell? ⟨gs, 3, none⟩ = some (.int .i64 x3) ∧ w'.cell? ⟨B2, 0, none⟩ = some (.slice a ps.length cap) ∧ w'.cell? ⟨gt, 0, none⟩ = some (.int .i64 y0) ∧ w'.cell? ⟨gt, 1, none⟩ = some (.int .i64 y1) ∧ w'.cell? ⟨gt, 2, none⟩ = some (.int .i64 y2) ∧ w'.cell? ⟨gt, 3, none⟩ = some (.int .i64 y3) ∧ w'.cell? ⟨gj, 0, none⟩ = some (.int .i64 k) ∧ w'.cell? ⟨B, 0, none⟩ = some (.slice a ps.length cap) ∧ w'.cell? ⟨w.heap.size, 0, none⟩ = some (.slice a ps.length cap) ∧ w'.cell? ⟨w.heap.size + 1, 0, none⟩ = some (.bool false)) ∧ Has w [(gs, [.int .i64 x0, .int .i64 x1, .int .i64 x2, .int .i64 x3]), (B2, [.slice a ps.length cap]), (gt, [.int .i64 y0, .int .i64 y1, .int .i64 y2, .int .i64 y3]), (gj, [.int .i64 k]), (B, [.slice a ps.length cap]), (w.heap.size, [.slice a ps.length cap]), (w.heap.size + 1, [.bool false])] w')) (by kernel_rfl) (defers_none _ (by kernel_rfl)) (ms1.out _ X0.h) (fun hHeld => ?_)
            refine wpAnyT_begin [0, 1, 3, 4, 5] (by kernel_rfl) (by kernel_rfl) ?_
            refine wpAnyT_take (oi := ⟨some 23, Op.load 102 (Operand.tmp 6), 102, _, _, none⟩) (v := .agg #[.int .i64 x0, .int .i64 x1, .int .i64 x2, .int .i64 x3]) rfl (fun _ _ _ h => h) (by rfl) (by assumption) (fun wS hSw => ?_) ?_
            · (try dsimp only at hSw); go_simp
            simp only [Act.put, List.setIfInBounds_toArray, List.set_cons_zero, List.set_cons_succ]
            refine wpAnyT_take (oi := ⟨some 24, Op.load 102 (Operand.tmp 4), 102, _, _, none⟩) (v := .agg #[.int .i64 y0, .int .i64 y1, .int .i64 y2, .int .i64 y3]) rfl (fun _ _ _ h => h) (by rfl) (by assumption) (fun wS hSw => ?_) ?_
            · (try dsimp only at hSw); go_simp
            simp only [Act.put, List.setIfInBounds_toArray, List.set_cons_zero, List.set_cons_succ]
            refine wpAnyT_take (oi := ⟨some 26, Op.load 25 (Operand.tmp 1), 25, _, _, none⟩) (v := .slice a ps.length cap) rfl (fun _ _ _ h => h) (by rfl) (by assumption) (fun wS hSw => ?_) ?_
            · (try dsimp only at hSw); go_simp
            simp only [Act.put, List.setIfInBounds_toArray, List.set_cons_zero, List.set_cons_succ]
            refine wpAnyT_take (oi := ⟨some 27, Op.move (Operand.tmp 5), 3, _, _, none⟩) (v := .int .i64 i) rfl (fun _ _ _ h => h) (by rfl) (by assumption) (fun wS hSw => ?_) ?_
            · (try dsimp only at hSw); go_simp
            simp only [Act.put, List.setIfInBounds_toArray, List.set_cons_zero, List.set_cons_succ]
            refine wpAnyT_take (oi := ⟨some 28, Op.load 3 (Operand.tmp 3), 3, _, _, none⟩) (v := .int .i64 k) rfl (fun _ _ _ h => h) (by rfl) (by assumption) (fun wS hSw => ?_) ?_
            · (try dsimp only at hSw); go_simp
            simp only [Act.put, List.setIfInBounds_toArray, List.set_cons_zero, List.set_cons_succ]
            refine wpAnyT_end ?_
            refine wpAnyH_listed #[true, true, false, true, true, true, false, false] (by kernel_rfl) ?_
            refine wpAnyH_ready (rs := [2]) (by kernel_rfl) (by simp) ?_
            refine AllReadyH.cons (o := ⟨some 25, Op.call { callee := Callee.value (Operand.func 82), args := #[Operand.tmp 23, Operand.tmp 24], argTypes := #[102, 102] }, 3, _, _, none⟩) rfl (fun K hK => ?_) AllReadyH.nil
            go_simp
            go_at_call 82
            refine (HK.call X0 (lmeet_is _ _ _ _ _ _ _ _ _ HM.out _)).mono ?_
            rintro e A3 ⟨rfl, X1⟩
            go_wp2_with fail
            clear hHeld
            refine hK.out _ _ (ms1.out _ X1.h) (fun hHeld => ?_)
            clear hK K
            try simp only [List.setIfInBounds_toArray, List.set_cons_zero, List.set_cons_succ]
            refine wpAnyH_listed #[true, true, true, true, true, true, false, false] (by kernel_rfl) ?_
            refine wpAnyH_ready (rs := [6]) (by kernel_rfl) (by simp) ?_
            refine AllReadyH.cons (o := ⟨some 29, Op.call { callee := Callee.value (Operand.func 83), args := #[Operand.tmp 26, Operand.tmp 27, Operand.tmp 28], argTypes := #[25, 3, 3] }, 3, _, _, none⟩) rfl (fun K hK => ?_) AllReadyH.nil
            go_simp
            go_at_call 83
            refine (HK.call X1 (joints_is _ ps i k _ (HV.out.later X1.h.low) (by omega) (by omega) (by omega) _ HW.out)).mono ?_
            rintro e A4 ⟨rfl, X2⟩
            go_wp2_with fail
            clear hHeld
            refine hK.out _ _ (ms1.out _ X2.h) (fun hHeld => ?_)
            clear hK K
            try simp only [List.setIfInBounds_toArray, List.set_cons_zero, List.set_cons_succ]
            refine wpAnyH_listed #[true, true, true, true, true, true, true, false] (by kernel_rfl) ?_
            refine wpAnyT_begin [7] (by kernel_rfl) (by kernel_rfl) ?_
            refine wpAnyT_take (oi := ⟨some 30, Op.binOp BinOp.neq 3 (Operand.tmp 25) (Operand.tmp 29) 3, 4, _, _, none⟩) (v := .bool true) rfl (fun _ _ _ h => h) (by rfl) (by assumption) (fun wS hSw => ?_) ?_
            · (try dsimp only at hSw); go_simp
            simp only [Act.put, List.setIfInBounds_toArray, List.set_cons_zero, List.set_cons_succ]
            refine wpAnyT_end ?_
            refine wpAnyH_listed #[true, true, true, true, true, true, true, true] (by kernel_rfl) ?_
            refine wpAnyH_done (by kernel_rfl) ?_ _
            refine Calm.normal ?_
            clear hHeld
            have k9 := X2.h.tail.tail.tail.tail.tail.tail.fact (.head _) (i := 0) rfl
            have f9 := X2.h.tail.tail.tail.tail.tail.tail.free (.head _) (i := 0) rfl
            gi_wp2_with fail
            have X3 := (HK.perm X2.tail (Mid6 _ _ _ _ _ _)).set 0 (by simp) (.bool false)
            exact ⟨keeps_mono X3.k (Nat.zero_le _), .inr ⟨rfl, ⟨X3.h, hJ.k.trans X3.k⟩, Lib.hid (by first | trivial | (rw [hb]; simp [hxw]))⟩⟩
        · obtain rfl : i = k := by omega
          gi_wp2_with fail
          exact ⟨KeepsFrom.refl _ _, rfl, hJ.tail⟩

end Go.Proofs.Ytmldgjhecoeldaa

namespace Go.Proofs.Ytmldgjhecoeldaa
open Go.RowKit Go.Lib

/-- What Check answers, given whether a list does not meet itself. -/
def chkP (ps : List (Int × Int)) (s : Bool) : Int := if ps.length < 2 ∨ 40 < ps.length then 2 else if ps.all rtP = false then 10 else if s = false then 11 else 0
theorem simple_is (v : Value) (ps : List (Int × Int)) (w : World) (hv : RowP w v ps) (hlen : (ps.length : Int) ≤ 1000000) (r : Bool) (h : simpleP ps = r) :
    Calls Try.prog 54 #[v] w fun e w' => e = .returned (.bool r) ∧ Below w.heap.size w w' := h ▸ simple_any v ps w hv hlen

set_option maxRecDepth 100000 in
set_option maxHeartbeats 2000000 in
theorem lcheck_any (v : Value) (ps : List (Int × Int)) (w : World) (hv : RowP w v ps) :
    Calls Try.prog 27 #[v] w fun e w' => e = .returned (.int .i64 (chkP ps (simpleP ps))) ∧ Below w.heap.size w w' := by
  have hv0 := hv
  obtain ⟨a, cap, rfl, hc1, hc2, -⟩ := hv0
  have HV := Lib.hid hv
  clear hv
  by_cases h1 : ps.length < 2
  · have HR := Lib.hid (show chkP ps (simpleP ps) = 2 by unfold chkP; rw [if_pos (.inl h1)])
    have e1 : decide ((ps.length : Int) < 2) = true := decide_eq_true (by omega)
    go_enter Try.func27, Try.ntmps27
    go_wp2_with fail
    go_ret
    exact ⟨ret_i HR.out.symm, by go_grown⟩
  · have e1 : decide ((ps.length : Int) < 2) = false := decide_eq_false (by omega)
    by_cases h2 : 40 < ps.length
    · have HR := Lib.hid (show chkP ps (simpleP ps) = 2 by unfold chkP; rw [if_pos (.inr h2)])
      have e2 : decide ((40 : Int) < (ps.length : Int)) = true := decide_eq_true (by omega)
      clear h1 h2
      go_enter Try.func27, Try.ntmps27
      go_wp2_with fail
      go_ret
      exact ⟨ret_i HR.out.symm, by go_grown⟩
    · have e2 : decide ((40 : Int) < (ps.length : Int)) = false := decide_eq_false (by omega)
      cases h3 : ps.all rtP
      · have HR := Lib.hid (show chkP ps (simpleP ps) = 10 by unfold chkP; rw [if_neg (by omega), if_pos h3])
        have H3 := Lib.hid h3
        clear h1 h2 h3
        go_enter Try.func27, Try.ntmps27
        go_wp2_with fail
        refine (rights_is _ ps w HV.out _ H3.out).mono ?_
        rintro e w1 ⟨rfl, g1⟩
        go_wp2_with fail
        go_ret
        exact ⟨ret_i HR.out.symm, g1⟩
      · have H3 := Lib.hid h3
        have HL := Lib.hid (show (ps.length : Int) ≤ 1000000 by omega)
        cases h4 : simpleP ps
        · have HR := Lib.hid (show chkP ps false = 11 by unfold chkP; rw [if_neg (by omega), if_neg (by rw [h3]; simp), if_pos rfl])
          have H4 := Lib.hid h4
          clear h1 h2 h3 h4
          go_enter Try.func27, Try.ntmps27
          go_wp2_with fail
          refine (rights_is _ ps w HV.out _ H3.out).mono ?_
          rintro e w1 ⟨rfl, g1⟩
          go_wp2_with fail
          refine (simple_is _ ps w1 (HV.out.later g1) HL.out _ H4.out).mono ?_
          rintro e w2 ⟨rfl, g2⟩
          go_wp2_with fail
          go_ret
          exact ⟨ret_i HR.out.symm, Grows.then g1 g2⟩
        · have HR := Lib.hid (show chkP ps true = 0 by unfold chkP; rw [if_neg (by omega), if_neg (by rw [h3]; simp), if_neg (by simp)])
          have H4 := Lib.hid h4
          clear h1 h2 h3 h4
          go_enter Try.func27, Try.ntmps27
          go_wp2_with fail
          refine (rights_is _ ps w HV.out _ H3.out).mono ?_
          rintro e w1 ⟨rfl, g1⟩
          go_wp2_with fail
          refine (simple_is _ ps w1 (HV.out.later g1) HL.out _ H4.out).mono ?_
          rintro e w2 ⟨rfl, g2⟩
          go_wp2_with fail
          go_ret
          exact ⟨ret_i HR.out.symm, Grows.then g1 g2⟩

end Go.Proofs.Ytmldgjhecoeldaa
