/- line.In. line.Touches. -/
import Derived.Test.YtkejilomempogaaRCr
namespace Go.Proofs.Ytkejilomempogaa
open Go.RowKit Go.Lib

/-- The segments of a triangle's border. -/
def bdr (a b c : Int × Int) : List (Int × Int) := [a, b, c, a]
def onK (a b c p : Int × Int) (k : Nat) : Bool := onOf (pt (bdr a b c) k).1 (pt (bdr a b c) k).2 (pt (bdr a b c) (k + 1)).1 (pt (bdr a b c) (k + 1)).2 p.1 p.2
def sdP (a b p : Int × Int) : Int := sideOf a.1 a.2 b.1 b.2 p.1 p.2
/-- Whether a point is in a triangle, as line.In says it. -/
def inP (a b c p : Int × Int) : Bool := [a, b, c, p].all rtP && (if sdP a b p ≠ 0 ∧ sdP a b p = sdP b c p ∧ sdP a b p = sdP c a p then true else anyTo (onK a b c p) 3)
theorem has5 {w : World} (xs ys zs us vs : List Value) (T U V X Y : TypeId) : Has w [(w.heap.size, xs), (w.heap.size + 1, ys), (w.heap.size + 2, zs), (w.heap.size + 3, us), (w.heap.size + 4, vs)] (((((w.alloc (.cells xs.toArray T)).alloc (.cells ys.toArray U)).alloc (.cells zs.toArray V)).alloc (.cells us.toArray X)).alloc (.cells vs.toArray Y)) := by
  have h := (has4 (w := w) xs ys zs us T U V X).push vs Y
  rw [size_alloc, size_alloc, size_alloc, size_alloc] at h
  exact h.perm ((List.Perm.swap _ _ _).trans (.cons _ ((List.Perm.swap _ _ _).trans (.cons _ ((List.Perm.swap _ _ _).trans (.cons _ (.swap _ _ _)))))))
theorem Last5 {α : Type} (a b c d x : α) : List.Perm [a, b, c, d, x] [x, a, b, c, d] :=
  (((List.Perm.cons _ ((List.Perm.cons _ ((List.Perm.cons _ (.swap _ _ _)).trans (.swap _ _ _))).trans (.swap _ _ _))).trans (.swap _ _ _)))
theorem border_is {w w1 : World} {bs : List (Nat × List Value)} (h : Has w bs w1) (a0 a1 b0 b1 c0 c1 : Int) :
    Calls Try.prog 59 #[.agg #[.int .i64 a0, .int .i64 a1], .agg #[.int .i64 b0, .int .i64 b1], .agg #[.int .i64 c0, .int .i64 c1]] w1 fun e w' => ∃ a c, e = .returned (.slice a 4 c) ∧ RowP w' (.slice a 4 c) (bdr (a0, a1) (b0, b1) (c0, c1)) ∧ Has w bs w' ∧ Grows w1 w' := by
  refine (border_any a0 a1 b0 b1 c0 c1 w1).mono ?_
  rintro e w' ⟨v, rfl, hr, g⟩
  have hr0 := hr
  obtain ⟨a, cap, rfl, -⟩ := hr0
  exact ⟨a, cap, rfl, hr, h.later g, g⟩

attribute [local go_sem] Oper.semAt_some
set_option linter.unusedSimpArgs false in
set_option maxRecDepth 100000 in
set_option maxHeartbeats 16000000 in
theorem lin_any (a0 a1 b0 b1 c0 c1 p0 p1 : Int) (w : World) :
    Calls Try.prog 29 #[.agg #[.int .i64 a0, .int .i64 a1], .agg #[.int .i64 b0, .int .i64 b1], .agg #[.int .i64 c0, .int .i64 c1], .agg #[.int .i64 p0, .int .i64 p1]] w fun e w' => e = .returned (.bool (inP (a0, a1) (b0, b1) (c0, c1) (p0, p1))) ∧ Below w.heap.size w w' := by
  have C0 := has5 (w := w) [.int .i64 a0, .int .i64 a1] [.int .i64 b0, .int .i64 b1] [.int .i64 c0, .int .i64 c1] [.int .i64 p0, .int .i64 p1] [.bool false] 36 36 36 36 4
  cases h1 : [(a0, a1), (b0, b1), (c0, c1), (p0, p1)].all rtP
  · have HR := Lib.hid (show inP (a0, a1) (b0, b1) (c0, c1) (p0, p1) = false by unfold inP; rw [h1]; rfl)
    have H1 := Lib.hid h1
    clear h1
    go_enter Try.func29, Try.ntmps29
    go_upto_region 1 with fail
    change Has w _ (((((w.alloc (.cells #[.int .i64 a0, .int .i64 a1] 36)).alloc (.cells #[.int .i64 b0, .int .i64 b1] 36)).alloc (.cells #[.int .i64 c0, .int .i64 c1] 36)).alloc (.cells #[.int .i64 p0, .int .i64 p1] 36)).alloc (.cells #[.bool false] 4)) at C0
    have hsz : (((((w.alloc (.cells #[.int .i64 a0, .int .i64 a1] 36)).alloc (.cells #[.int .i64 b0, .int .i64 b1] 36)).alloc (.cells #[.int .i64 c0, .int .i64 c1] 36)).alloc (.cells #[.int .i64 p0, .int .i64 p1] 36)).alloc (.cells #[.bool false] 4)).heap.size = w.heap.size + 1 + 1 + 1 + 1 + 1 := by simp
    generalize ((((w.alloc (.cells #[.int .i64 a0, .int .i64 a1] 36)).alloc (.cells #[.int .i64 b0, .int .i64 b1] 36)).alloc (.cells #[.int .i64 c0, .int .i64 c1] 36)).alloc (.cells #[.int .i64 p0, .int .i64 p1] 36)).alloc (.cells #[.bool false] 4) = w1 at *
    obtain ⟨k0, k1⟩ := C0.pt
    obtain ⟨k2, k3⟩ := C0.tail.pt
    obtain ⟨k4, k5⟩ := C0.tail.tail.pt
    obtain ⟨k6, k7⟩ := C0.tail.tail.tail.pt
    obtain ⟨C1, R1⟩ := one_row C0 hsz [(a0, a1), (b0, b1), (c0, c1), (p0, p1)] (by simp)
    go_wp2_with fail
    refine (Has.call C1 (rights_is _ _ _ R1 _ H1.out)).mono ?_
    rintro e w2 ⟨rfl, C2⟩
    clear k0 k1 k2 k3 k4 k5 k6 k7
    have CZ := C2.tail.perm (Last5 _ _ _ _ _)
    have k9 := CZ.fact (.head _) (i := 0) rfl
    have f9 := CZ.free (.head _) (i := 0) rfl
    go_wp2_with fail
    have CY := CZ.set 0 (by simp) (.bool false)
    change Has w _ (w2.setCell ⟨w.heap.size + 1 + 1 + 1 + 1, 0, none⟩ (.bool false)) at CY
    generalize w2.setCell ⟨w.heap.size + 1 + 1 + 1 + 1, 0, none⟩ (.bool false) = wz at *
    have d0 : wz.cell? ⟨w.heap.size + 1 + 1 + 1 + 1, 0, none⟩ = some (.bool false) := CY.fact (.head _) (i := 0) rfl
    exact bodyPost_ret (v := .bool false) (by simp [results, Try.results29, go_sem, d0]) rfl ⟨by rw [HR.out], CY.low⟩
  · obtain ⟨s1, hs1⟩ : ∃ s, sideOf a0 a1 b0 b1 p0 p1 = s := ⟨_, rfl⟩
    obtain ⟨s2, hs2⟩ : ∃ s, sideOf b0 b1 c0 c1 p0 p1 = s := ⟨_, rfl⟩
    obtain ⟨s3, hs3⟩ : ∃ s, sideOf c0 c1 a0 a1 p0 p1 = s := ⟨_, rfl⟩
    obtain ⟨r, hr⟩ : ∃ r, anyTo (onK (a0, a1) (b0, b1) (c0, c1) (p0, p1)) 3 = r := ⟨_, rfl⟩
    have HR := Lib.hid (show inP (a0, a1) (b0, b1) (c0, c1) (p0, p1) = if s1 ≠ 0 ∧ s1 = s2 ∧ s1 = s3 then true else r by unfold inP sdP; simp only [hs1, hs2, hs3, hr]; rw [h1]; rfl)
    have H1 := Lib.hid h1
    have HS1 := Lib.hid hs1
    have HS2 := Lib.hid hs2
    have HS3 := Lib.hid hs3
    have HF := Lib.hid hr
    clear h1 hs1 hs2 hs3 hr
    refine (callsIn_wide (n := 5)).1 ?_
    refine callsIn_of_wp_marks Try.func29 rfl trivial ?_ rfl
    simp only [Try.ntmps29, List.size_toArray, List.length_cons, List.length_nil, Nat.reduceAdd, Nat.reduceSub, Array.replicate_succ, Array.replicate_zero, List.push_toArray, List.append_toArray, List.nil_append, List.cons_append]
    refine wpIn_wide.2 ?_
    go_upto_region 1 with fail
    change Has w _ (((((w.alloc (.cells #[.int .i64 a0, .int .i64 a1] 36)).alloc (.cells #[.int .i64 b0, .int .i64 b1] 36)).alloc (.cells #[.int .i64 c0, .int .i64 c1] 36)).alloc (.cells #[.int .i64 p0, .int .i64 p1] 36)).alloc (.cells #[.bool false] 4)) at C0
    have hsz : (((((w.alloc (.cells #[.int .i64 a0, .int .i64 a1] 36)).alloc (.cells #[.int .i64 b0, .int .i64 b1] 36)).alloc (.cells #[.int .i64 c0, .int .i64 c1] 36)).alloc (.cells #[.int .i64 p0, .int .i64 p1] 36)).alloc (.cells #[.bool false] 4)).heap.size = w.heap.size + 1 + 1 + 1 + 1 + 1 := by simp
    generalize ((((w.alloc (.cells #[.int .i64 a0, .int .i64 a1] 36)).alloc (.cells #[.int .i64 b0, .int .i64 b1] 36)).alloc (.cells #[.int .i64 c0, .int .i64 c1] 36)).alloc (.cells #[.int .i64 p0, .int .i64 p1] 36)).alloc (.cells #[.bool false] 4) = w1 at *
    obtain ⟨k0, k1⟩ := C0.pt
    obtain ⟨k2, k3⟩ := C0.tail.pt
    obtain ⟨k4, k5⟩ := C0.tail.tail.pt
    obtain ⟨k6, k7⟩ := C0.tail.tail.tail.pt
    obtain ⟨C1, R1⟩ := one_row C0 hsz [(a0, a1), (b0, b1), (c0, c1), (p0, p1)] (by simp)
    go_wp2_with fail
    refine (Has.call C1 (rights_is _ _ _ R1 _ H1.out)).mono ?_
    rintro e w2 ⟨rfl, C2x⟩
    clear k0 k1 k2 k3 k4 k5 k6 k7
    have C2 := C2x.tail
    clear C0 C1 R1 C2x hsz
    obtain ⟨k0, k1⟩ := C2.pt
    obtain ⟨k2, k3⟩ := C2.tail.pt
    obtain ⟨k4, k5⟩ := C2.tail.tail.pt
    obtain ⟨k6, k7⟩ := C2.tail.tail.tail.pt
    go_wp2_with fail
    refine (Has.call C2 (side_is _ _ _ _ _ _ _ HS1.out _)).mono ?_
    rintro e w3 ⟨rfl, C3⟩
    clear k0 k1 k2 k3 k4 k5 k6 k7
    obtain ⟨k0, k1⟩ := C3.pt
    obtain ⟨k2, k3⟩ := C3.tail.pt
    obtain ⟨k4, k5⟩ := C3.tail.tail.pt
    obtain ⟨k6, k7⟩ := C3.tail.tail.tail.pt
    by_cases e1 : s1 = 0
    · have f1 : (s1 == 0) = true := by rw [beq_iff_eq]; exact e1
      have f2 : (s1 != 0) = false := by rw [bne_eq_false_iff_eq]; exact e1
      have HE := Lib.hid (show ¬ (s1 ≠ 0 ∧ s1 = s2 ∧ s1 = s3) from fun h => h.1 e1)
      clear e1
      have HN := Lib.hid (show inP (a0, a1) (b0, b1) (c0, c1) (p0, p1) = r by rw [HR.out, if_neg HE.out])
      clear HR
      have X4 := C3
      clear C3
      obtain ⟨k0, k1⟩ := X4.pt
      obtain ⟨k2, k3⟩ := X4.tail.pt
      obtain ⟨k4, k5⟩ := X4.tail.tail.pt
      obtain ⟨k6, k7⟩ := X4.tail.tail.tail.pt
      go_wp2_with fail
      refine (border_is X4 a0 a1 b0 b1 c0 c1).mono ?_
      rintro e w7 ⟨ab, cb, rfl, hb, X5, g5⟩
      clear k0 k1 k2 k3 k4 k5 k6 k7 X4 g5
      go_wp2_with fail
      refine (segs_both X5 hb).mono ?_
      rintro e w8 ⟨⟨B, rfl, X6⟩, g6⟩
      have hb6 := hb.later g6
      clear X5 hb g6
      go_wp2_with fail
      refine (wpIn_wide (n := 5)).1 ?_
      have hM : w.heap.size + 4 < w8.heap.size := X6.tail.tail.tail.tail.tail.lt0
      refine range_sq (K := 3) (enc := fun k => #[.int .i64 k, .agg #[.int .i64 (pt (bdr (a0, a1) (b0, b1) (c0, c1)) k).1, .int .i64 (pt (bdr (a0, a1) (b0, b1) (c0, c1)) k).2, .int .i64 (pt (bdr (a0, a1) (b0, b1) (c0, c1)) (k + 1)).1, .int .i64 (pt (bdr (a0, a1) (b0, b1) (c0, c1)) (k + 1)).2]]) (Lv := fun W => W.cell? ⟨B, 0, none⟩ = some (.slice ab 4 cb) ∧ RowP W (.slice ab 4 cb) (bdr (a0, a1) (b0, b1) (c0, c1))) (w0 := w) rfl (enters_of Try.func75 (by kernel_rfl) rfl) (seg_seq _ (bdr (a0, a1) (b0, b1) (c0, c1)) (.slice ab 4 cb) B w) X6.low (fun _ => rfl)
        (fun k W => Has w [(B, [.slice ab 4 cb]), (w.heap.size, [.int .i64 a0, .int .i64 a1]), (w.heap.size + 1, [.int .i64 b0, .int .i64 b1]), (w.heap.size + 2, [.int .i64 c0, .int .i64 c1]), (w.heap.size + 3, [.int .i64 p0, .int .i64 p1]), (w.heap.size + 4, [.bool false])] W ∧ RowP W (.slice ab 4 cb) (bdr (a0, a1) (b0, b1) (c0, c1)) ∧ Hid (anyTo (onK (a0, a1) (b0, b1) (c0, c1) (p0, p1)) k = false))
        (fun c k W => c = .ret ∧ Has w [(w.heap.size + 4, [.bool true])] W ∧ Hid (onK (a0, a1) (b0, b1) (c0, c1) (p0, p1) k = true))
        (fun k a' W => ∃ g, a' = { tmps := #[.agg #[.int .i64 a0, .int .i64 a1], .agg #[.int .i64 b0, .int .i64 b1], .agg #[.int .i64 c0, .int .i64 c1], .agg #[.int .i64 p0, .int .i64 p1], .pointer (some ⟨w.heap.size, 0, none⟩), .pointer (some ⟨w.heap.size + 1, 0, none⟩), .pointer (some ⟨w.heap.size + 1 + 1, 0, none⟩), .pointer (some ⟨w.heap.size + 1 + 1 + 1, 0, none⟩), .pointer (some ⟨w.heap.size + 1 + 1 + 1 + 1, 0, none⟩), .int .i64 s1, undef, .pointer (some ⟨g, 0, none⟩), .agg #[.int .i64 a0, .int .i64 a1], .agg #[.int .i64 b0, .int .i64 b1], .agg #[.int .i64 c0, .int .i64 c1], .agg #[.int .i64 p0, .int .i64 p1], .slice (some ⟨w.heap.size + 1 + 1 + 1 + 1 + 1, 0, none⟩) 4 4, .bool true, .bool false, .agg #[.int .i64 a0, .int .i64 a1], .agg #[.int .i64 b0, .int .i64 b1], .agg #[.int .i64 p0, .int .i64 p1], .int .i64 s1, .int .i64 s1, .bool false, .bool false, undef, undef, undef, undef, undef, undef, .bool false, .bool false, undef, undef, undef, undef, undef, undef, .bool false, .agg #[.int .i64 a0, .int .i64 a1], .agg #[.int .i64 b0, .int .i64 b1], .agg #[.int .i64 c0, .int .i64 c1], .slice ab 4 cb, .func (.func 75) #[] #[.pointer (some ⟨B, 0, none⟩)], .int .i64 k, .agg #[.int .i64 (pt (bdr (a0, a1) (b0, b1) (c0, c1)) k).1, .int .i64 (pt (bdr (a0, a1) (b0, b1) (c0, c1)) k).2, .int .i64 (pt (bdr (a0, a1) (b0, b1) (c0, c1)) (k + 1)).1, .int .i64 (pt (bdr (a0, a1) (b0, b1) (c0, c1)) (k + 1)).2], undef, undef, undef, undef, undef, undef], defers := [] } ∧ Has w [(g, [.int .i64 (pt (bdr (a0, a1) (b0, b1) (c0, c1)) k).1, .int .i64 (pt (bdr (a0, a1) (b0, b1) (c0, c1)) k).2, .int .i64 (pt (bdr (a0, a1) (b0, b1) (c0, c1)) (k + 1)).1, .int .i64 (pt (bdr (a0, a1) (b0, b1) (c0, c1)) (k + 1)).2]), (B, [.slice ab 4 cb]), (w.heap.size, [.int .i64 a0, .int .i64 a1]), (w.heap.size + 1, [.int .i64 b0, .int .i64 b1]), (w.heap.size + 2, [.int .i64 c0, .int .i64 c1]), (w.heap.size + 3, [.int .i64 p0, .int .i64 p1]), (w.heap.size + 4, [.bool false])] W ∧ RowP W (.slice ab 4 cb) (bdr (a0, a1) (b0, b1) (c0, c1)) ∧ Hid (anyTo (onK (a0, a1) (b0, b1) (c0, c1) (p0, p1)) k = false))
        (fun k A W h g => ⟨h.1.later g, h.2.1.later g, h.2.2⟩) (fun c k A W h g => ⟨h.1, h.2.1.later g, h.2.2⟩) (fun k A h => ⟨h.1.fact (.head _) (i := 0) rfl, h.2.1⟩)
        (fun k A l o o' h hl ho hc => ⟨h.1.putObj (by omega) ho hc, h.2.1.putObj ho hc, h.2.2⟩) (fun c k A l o o' h hl ho hc => ⟨h.1, h.2.1.putObj (by omega) ho hc, h.2.2⟩)
        (fun k a' A l o o' h hl ho hc => by obtain ⟨g, e, hh, hx, hy⟩ := h; exact ⟨g, e, hh.putObj (by omega) ho hc, hx.putObj ho hc, hy⟩) ⟨X6, hb6, Lib.hid rfl⟩ ?assign ?body ?done ?stop
      case assign =>
        rintro _ k A T hk ⟨hI, hI2, hX⟩ hT
        generalize (pt (bdr (a0, a1) (b0, b1) (c0, c1)) k).1 = x0 at *
        generalize (pt (bdr (a0, a1) (b0, b1) (c0, c1)) k).2 = x1 at *
        generalize (pt (bdr (a0, a1) (b0, b1) (c0, c1)) (k + 1)).1 = x2 at *
        generalize (pt (bdr (a0, a1) (b0, b1) (c0, c1)) (k + 1)).2 = x3 at *
        gi_wp2_with fail
        have E := (HK.start (B := w8.heap.size) hI).push [.int .i64 x0, .int .i64 x1, .int .i64 x2, .int .i64 x3] 64
        exact hT _ _ E.k ⟨_, rfl, E.h, hI2.later ((Below.refl _ A).alloc (Nat.le_refl _) _), hX⟩
      case done =>
        rintro D A hD ⟨hI, hI2, hX⟩ hK
        have hr : r = false := HF.out.symm.trans hX.out
        subst hr
        have k0 := hI.tail.tail.tail.tail.tail.fact (.head _) (i := 0) rfl
        have f0 := hI.tail.tail.tail.tail.tail.free (.head _) (i := 0) rfl
        gi_wp2_with fail
        go_wp2_with fail
        have X2 := hI.tail.tail.tail.tail.tail.set 0 (by simp) (.bool false)
        have hK2 := (keeps_set (B := 0) A ⟨w.heap.size + 4, 0, none⟩ (.bool false)).same D _ (Nat.zero_le _) hK rfl
        change Has w _ (A.setCell ⟨w.heap.size + 1 + 1 + 1 + 1, 0, none⟩ (.bool false)) at X2
        change (A.setCell ⟨w.heap.size + 1 + 1 + 1 + 1, 0, none⟩ (.bool false)).heap[D]? = _ at hK2
        generalize A.setCell ⟨w.heap.size + 1 + 1 + 1 + 1, 0, none⟩ (.bool false) = A2 at *
        refine ⟨by simp, .inl ⟨_, _, rfl, run_takeDeferred hK2, ?_⟩⟩
        have X3 := X2.putObj (ob' := .deferred none) (by omega) hK2 rfl
        have d0 : (A2.putObj D (.deferred none)).cell? ⟨w.heap.size + 1 + 1 + 1 + 1, 0, none⟩ = some (.bool false) := X3.fact (.head _) (i := 0) rfl
        exact ⟨.bool false, by simp [results, Try.results29, go_sem, d0], by rw [HN.out], X3.low⟩
      case stop =>
        rintro D c k A hD hk ⟨rfl, hI, hX⟩ hK
        have hr : true = r := (anyTo_yes hX.out hk).trans HF.out
        subst hr
        gi_wp2_with fail
        refine ⟨by simp, .inl ⟨_, _, rfl, run_takeDeferred hK, ?_⟩⟩
        have X3 := hI.putObj (ob' := .deferred none) (by omega) hK rfl
        have d0 : (A.putObj D (.deferred none)).cell? ⟨w.heap.size + 1 + 1 + 1 + 1, 0, none⟩ = some (.bool true) := X3.fact (.head _) (i := 0) rfl
        exact ⟨.bool true, by simp [results, Try.results29, go_sem, d0], by rw [HN.out], X3.low⟩
      case body =>
        rintro lo k a' A hl - ⟨gt, rfl, hI, hI2, hX⟩ hk
        obtain ⟨q, hq⟩ : ∃ q, onK (a0, a1) (b0, b1) (c0, c1) (p0, p1) k = q := ⟨_, rfl⟩
        have hm : onOf (pt (bdr (a0, a1) (b0, b1) (c0, c1)) k).1 (pt (bdr (a0, a1) (b0, b1) (c0, c1)) k).2 (pt (bdr (a0, a1) (b0, b1) (c0, c1)) (k + 1)).1 (pt (bdr (a0, a1) (b0, b1) (c0, c1)) (k + 1)).2 p0 p1 = q := hq
        generalize (pt (bdr (a0, a1) (b0, b1) (c0, c1)) k).1 = x0 at *
        generalize (pt (bdr (a0, a1) (b0, b1) (c0, c1)) k).2 = x1 at *
        generalize (pt (bdr (a0, a1) (b0, b1) (c0, c1)) (k + 1)).1 = x2 at *
        generalize (pt (bdr (a0, a1) (b0, b1) (c0, c1)) (k + 1)).2 = x3 at *
        have HM := Lib.hid hm
        have HQ := Lib.hid hq
        clear hm hq
        obtain ⟨k0, k1, k2, k3⟩ := hI.one4
        obtain ⟨k4, k5⟩ := hI.tail.tail.tail.tail.tail.pt
        gi_wp2_with fail
        refine ⟨trivial, (round_call (HK.call2 (HK.start (B := 0) hI) (on_is _ _ _ _ _ _ _ HM.out _))).mono ?_⟩
        rintro e A3 ⟨rfl, X1, gB⟩
        have RR := hI2.later gB
        clear k0 k1 k2 k3 k4 k5
        cases q
        · gi_wp2_with fail
          exact ⟨keeps_mono X1.k (Nat.zero_le _), X1.h.tail, RR, Lib.hid (anyTo_no hX.out HQ.out)⟩
        · have k9 := X1.h.tail.tail.tail.tail.tail.tail.fact (.head _) (i := 0) rfl
          have f9 := X1.h.tail.tail.tail.tail.tail.tail.free (.head _) (i := 0) rfl
          gi_wp2_with fail
          have X3 := X1.tail.tail.tail.tail.tail.tail.set 0 (by simp) (.bool true)
          exact ⟨keeps_mono X3.k (Nat.zero_le _), rfl, X3.h, HQ⟩
    · have f1 : (s1 == 0) = false := by rw [beq_eq_false_iff_ne]; exact e1
      have f2 : (s1 != 0) = true := by rw [bne_iff_ne]; exact e1
      by_cases e2 : s1 = s2
      · have f3 : (s1 == s2) = true := by rw [beq_iff_eq]; exact e2
        by_cases e3 : s1 = s3
        · have f4 : (s1 == s3) = true := by rw [beq_iff_eq]; exact e3
          have HE := Lib.hid (show (s1 ≠ 0 ∧ s1 = s2 ∧ s1 = s3) from ⟨e1, e2, e3⟩)
          clear e1 e2 e3
          go_wp2_with fail
          refine (Has.call C3 (side_is _ _ _ _ _ _ _ HS2.out _)).mono ?_
          rintro e w4 ⟨rfl, C4⟩
          clear k0 k1 k2 k3 k4 k5 k6 k7
          obtain ⟨k0, k1⟩ := C4.pt
          obtain ⟨k2, k3⟩ := C4.tail.pt
          obtain ⟨k4, k5⟩ := C4.tail.tail.pt
          obtain ⟨k6, k7⟩ := C4.tail.tail.tail.pt
          go_wp2_with fail
          refine (Has.call C4 (side_is _ _ _ _ _ _ _ HS3.out _)).mono ?_
          rintro e w5 ⟨rfl, C5⟩
          clear k0 k1 k2 k3 k4 k5 k6 k7
          have HN := Lib.hid (show inP (a0, a1) (b0, b1) (c0, c1) (p0, p1) = true by rw [HR.out, if_pos HE.out])
          have CZ := C5.perm (Last5 _ _ _ _ _)
          have k9 := CZ.fact (.head _) (i := 0) rfl
          have f9 := CZ.free (.head _) (i := 0) rfl
          go_wp2_with fail
          have CY := CZ.set 0 (by simp) (.bool true)
          change Has w _ (w5.setCell ⟨w.heap.size + 1 + 1 + 1 + 1, 0, none⟩ (.bool true)) at CY
          generalize w5.setCell ⟨w.heap.size + 1 + 1 + 1 + 1, 0, none⟩ (.bool true) = wz at *
          have d0 : wz.cell? ⟨w.heap.size + 1 + 1 + 1 + 1, 0, none⟩ = some (.bool true) := CY.fact (.head _) (i := 0) rfl
          exact ⟨.bool true, by simp [results, Try.results29, go_sem, d0], by rw [HN.out], CY.low⟩
        · have f4 : (s1 == s3) = false := by rw [beq_eq_false_iff_ne]; exact e3
          have HE := Lib.hid (show ¬ (s1 ≠ 0 ∧ s1 = s2 ∧ s1 = s3) from fun h => e3 h.2.2)
          clear e1 e2 e3
          go_wp2_with fail
          refine (Has.call C3 (side_is _ _ _ _ _ _ _ HS2.out _)).mono ?_
          rintro e w4 ⟨rfl, C4⟩
          clear k0 k1 k2 k3 k4 k5 k6 k7
          obtain ⟨k0, k1⟩ := C4.pt
          obtain ⟨k2, k3⟩ := C4.tail.pt
          obtain ⟨k4, k5⟩ := C4.tail.tail.pt
          obtain ⟨k6, k7⟩ := C4.tail.tail.tail.pt
          go_wp2_with fail
          refine (Has.call C4 (side_is _ _ _ _ _ _ _ HS3.out _)).mono ?_
          rintro e w5 ⟨rfl, C5⟩
          clear k0 k1 k2 k3 k4 k5 k6 k7
          have HN := Lib.hid (show inP (a0, a1) (b0, b1) (c0, c1) (p0, p1) = r by rw [HR.out, if_neg HE.out])
          clear HR
          have X4 := C5
          clear C5
          obtain ⟨k0, k1⟩ := X4.pt
          obtain ⟨k2, k3⟩ := X4.tail.pt
          obtain ⟨k4, k5⟩ := X4.tail.tail.pt
          obtain ⟨k6, k7⟩ := X4.tail.tail.tail.pt
          go_wp2_with fail
          refine (border_is X4 a0 a1 b0 b1 c0 c1).mono ?_
          rintro e w7 ⟨ab, cb, rfl, hb, X5, g5⟩
          clear k0 k1 k2 k3 k4 k5 k6 k7 X4 g5
          go_wp2_with fail
          refine (segs_both X5 hb).mono ?_
          rintro e w8 ⟨⟨B, rfl, X6⟩, g6⟩
          have hb6 := hb.later g6
          clear X5 hb g6
          go_wp2_with fail
          refine (wpIn_wide (n := 5)).1 ?_
          have hM : w.heap.size + 4 < w8.heap.size := X6.tail.tail.tail.tail.tail.lt0
          refine range_sq (K := 3) (enc := fun k => #[.int .i64 k, .agg #[.int .i64 (pt (bdr (a0, a1) (b0, b1) (c0, c1)) k).1, .int .i64 (pt (bdr (a0, a1) (b0, b1) (c0, c1)) k).2, .int .i64 (pt (bdr (a0, a1) (b0, b1) (c0, c1)) (k + 1)).1, .int .i64 (pt (bdr (a0, a1) (b0, b1) (c0, c1)) (k + 1)).2]]) (Lv := fun W => W.cell? ⟨B, 0, none⟩ = some (.slice ab 4 cb) ∧ RowP W (.slice ab 4 cb) (bdr (a0, a1) (b0, b1) (c0, c1))) (w0 := w) rfl (enters_of Try.func75 (by kernel_rfl) rfl) (seg_seq _ (bdr (a0, a1) (b0, b1) (c0, c1)) (.slice ab 4 cb) B w) X6.low (fun _ => rfl)
            (fun k W => Has w [(B, [.slice ab 4 cb]), (w.heap.size, [.int .i64 a0, .int .i64 a1]), (w.heap.size + 1, [.int .i64 b0, .int .i64 b1]), (w.heap.size + 2, [.int .i64 c0, .int .i64 c1]), (w.heap.size + 3, [.int .i64 p0, .int .i64 p1]), (w.heap.size + 4, [.bool false])] W ∧ RowP W (.slice ab 4 cb) (bdr (a0, a1) (b0, b1) (c0, c1)) ∧ Hid (anyTo (onK (a0, a1) (b0, b1) (c0, c1) (p0, p1)) k = false))
            (fun c k W => c = .ret ∧ Has w [(w.heap.size + 4, [.bool true])] W ∧ Hid (onK (a0, a1) (b0, b1) (c0, c1) (p0, p1) k = true))
            (fun k a' W => ∃ g, a' = { tmps := #[.agg #[.int .i64 a0, .int .i64 a1], .agg #[.int .i64 b0, .int .i64 b1], .agg #[.int .i64 c0, .int .i64 c1], .agg #[.int .i64 p0, .int .i64 p1], .pointer (some ⟨w.heap.size, 0, none⟩), .pointer (some ⟨w.heap.size + 1, 0, none⟩), .pointer (some ⟨w.heap.size + 1 + 1, 0, none⟩), .pointer (some ⟨w.heap.size + 1 + 1 + 1, 0, none⟩), .pointer (some ⟨w.heap.size + 1 + 1 + 1 + 1, 0, none⟩), .int .i64 s1, undef, .pointer (some ⟨g, 0, none⟩), .agg #[.int .i64 a0, .int .i64 a1], .agg #[.int .i64 b0, .int .i64 b1], .agg #[.int .i64 c0, .int .i64 c1], .agg #[.int .i64 p0, .int .i64 p1], .slice (some ⟨w.heap.size + 1 + 1 + 1 + 1 + 1, 0, none⟩) 4 4, .bool true, .bool false, .agg #[.int .i64 a0, .int .i64 a1], .agg #[.int .i64 b0, .int .i64 b1], .agg #[.int .i64 p0, .int .i64 p1], .int .i64 s1, .int .i64 s1, .bool true, .bool true, .int .i64 s1, .agg #[.int .i64 b0, .int .i64 b1], .agg #[.int .i64 c0, .int .i64 c1], .agg #[.int .i64 p0, .int .i64 p1], .int .i64 s2, .bool true, .bool true, .bool true, .int .i64 s1, .agg #[.int .i64 c0, .int .i64 c1], .agg #[.int .i64 a0, .int .i64 a1], .agg #[.int .i64 p0, .int .i64 p1], .int .i64 s3, .bool false, .bool false, .agg #[.int .i64 a0, .int .i64 a1], .agg #[.int .i64 b0, .int .i64 b1], .agg #[.int .i64 c0, .int .i64 c1], .slice ab 4 cb, .func (.func 75) #[] #[.pointer (some ⟨B, 0, none⟩)], .int .i64 k, .agg #[.int .i64 (pt (bdr (a0, a1) (b0, b1) (c0, c1)) k).1, .int .i64 (pt (bdr (a0, a1) (b0, b1) (c0, c1)) k).2, .int .i64 (pt (bdr (a0, a1) (b0, b1) (c0, c1)) (k + 1)).1, .int .i64 (pt (bdr (a0, a1) (b0, b1) (c0, c1)) (k + 1)).2], undef, undef, undef, undef, undef, undef], defers := [] } ∧ Has w [(g, [.int .i64 (pt (bdr (a0, a1) (b0, b1) (c0, c1)) k).1, .int .i64 (pt (bdr (a0, a1) (b0, b1) (c0, c1)) k).2, .int .i64 (pt (bdr (a0, a1) (b0, b1) (c0, c1)) (k + 1)).1, .int .i64 (pt (bdr (a0, a1) (b0, b1) (c0, c1)) (k + 1)).2]), (B, [.slice ab 4 cb]), (w.heap.size, [.int .i64 a0, .int .i64 a1]), (w.heap.size + 1, [.int .i64 b0, .int .i64 b1]), (w.heap.size + 2, [.int .i64 c0, .int .i64 c1]), (w.heap.size + 3, [.int .i64 p0, .int .i64 p1]), (w.heap.size + 4, [.bool false])] W ∧ RowP W (.slice ab 4 cb) (bdr (a0, a1) (b0, b1) (c0, c1)) ∧ Hid (anyTo (onK (a0, a1) (b0, b1) (c0, c1) (p0, p1)) k = false))
            (fun k A W h g => ⟨h.1.later g, h.2.1.later g, h.2.2⟩) (fun c k A W h g => ⟨h.1, h.2.1.later g, h.2.2⟩) (fun k A h => ⟨h.1.fact (.head _) (i := 0) rfl, h.2.1⟩)
            (fun k A l o o' h hl ho hc => ⟨h.1.putObj (by omega) ho hc, h.2.1.putObj ho hc, h.2.2⟩) (fun c k A l o o' h hl ho hc => ⟨h.1, h.2.1.putObj (by omega) ho hc, h.2.2⟩)
            (fun k a' A l o o' h hl ho hc => by obtain ⟨g, e, hh, hx, hy⟩ := h; exact ⟨g, e, hh.putObj (by omega) ho hc, hx.putObj ho hc, hy⟩) ⟨X6, hb6, Lib.hid rfl⟩ ?assign ?body ?done ?stop
          case assign =>
            rintro _ k A T hk ⟨hI, hI2, hX⟩ hT
            generalize (pt (bdr (a0, a1) (b0, b1) (c0, c1)) k).1 = x0 at *
            generalize (pt (bdr (a0, a1) (b0, b1) (c0, c1)) k).2 = x1 at *
            generalize (pt (bdr (a0, a1) (b0, b1) (c0, c1)) (k + 1)).1 = x2 at *
            generalize (pt (bdr (a0, a1) (b0, b1) (c0, c1)) (k + 1)).2 = x3 at *
            gi_wp2_with fail
            have E := (HK.start (B := w8.heap.size) hI).push [.int .i64 x0, .int .i64 x1, .int .i64 x2, .int .i64 x3] 64
            exact hT _ _ E.k ⟨_, rfl, E.h, hI2.later ((Below.refl _ A).alloc (Nat.le_refl _) _), hX⟩
          case done =>
            rintro D A hD ⟨hI, hI2, hX⟩ hK
            have hr : r = false := HF.out.symm.trans hX.out
            subst hr
            have k0 := hI.tail.tail.tail.tail.tail.fact (.head _) (i := 0) rfl
            have f0 := hI.tail.tail.tail.tail.tail.free (.head _) (i := 0) rfl
            gi_wp2_with fail
            go_wp2_with fail
            have X2 := hI.tail.tail.tail.tail.tail.set 0 (by simp) (.bool false)
            have hK2 := (keeps_set (B := 0) A ⟨w.heap.size + 4, 0, none⟩ (.bool false)).same D _ (Nat.zero_le _) hK rfl
            change Has w _ (A.setCell ⟨w.heap.size + 1 + 1 + 1 + 1, 0, none⟩ (.bool false)) at X2
            change (A.setCell ⟨w.heap.size + 1 + 1 + 1 + 1, 0, none⟩ (.bool false)).heap[D]? = _ at hK2
            generalize A.setCell ⟨w.heap.size + 1 + 1 + 1 + 1, 0, none⟩ (.bool false) = A2 at *
            refine ⟨by simp, .inl ⟨_, _, rfl, run_takeDeferred hK2, ?_⟩⟩
            have X3 := X2.putObj (ob' := .deferred none) (by omega) hK2 rfl
            have d0 : (A2.putObj D (.deferred none)).cell? ⟨w.heap.size + 1 + 1 + 1 + 1, 0, none⟩ = some (.bool false) := X3.fact (.head _) (i := 0) rfl
            exact ⟨.bool false, by simp [results, Try.results29, go_sem, d0], by rw [HN.out], X3.low⟩
          case stop =>
            rintro D c k A hD hk ⟨rfl, hI, hX⟩ hK
            have hr : true = r := (anyTo_yes hX.out hk).trans HF.out
            subst hr
            gi_wp2_with fail
            refine ⟨by simp, .inl ⟨_, _, rfl, run_takeDeferred hK, ?_⟩⟩
            have X3 := hI.putObj (ob' := .deferred none) (by omega) hK rfl
            have d0 : (A.putObj D (.deferred none)).cell? ⟨w.heap.size + 1 + 1 + 1 + 1, 0, none⟩ = some (.bool true) := X3.fact (.head _) (i := 0) rfl
            exact ⟨.bool true, by simp [results, Try.results29, go_sem, d0], by rw [HN.out], X3.low⟩
          case body =>
            rintro lo k a' A hl - ⟨gt, rfl, hI, hI2, hX⟩ hk
            obtain ⟨q, hq⟩ : ∃ q, onK (a0, a1) (b0, b1) (c0, c1) (p0, p1) k = q := ⟨_, rfl⟩
            have hm : onOf (pt (bdr (a0, a1) (b0, b1) (c0, c1)) k).1 (pt (bdr (a0, a1) (b0, b1) (c0, c1)) k).2 (pt (bdr (a0, a1) (b0, b1) (c0, c1)) (k + 1)).1 (pt (bdr (a0, a1) (b0, b1) (c0, c1)) (k + 1)).2 p0 p1 = q := hq
            generalize (pt (bdr (a0, a1) (b0, b1) (c0, c1)) k).1 = x0 at *
            generalize (pt (bdr (a0, a1) (b0, b1) (c0, c1)) k).2 = x1 at *
            generalize (pt (bdr (a0, a1) (b0, b1) (c0, c1)) (k + 1)).1 = x2 at *
            generalize (pt (bdr (a0, a1) (b0, b1) (c0, c1)) (k + 1)).2 = x3 at *
            have HM := Lib.hid hm
            have HQ := Lib.hid hq
            clear hm hq
            obtain ⟨k0, k1, k2, k3⟩ := hI.one4
            obtain ⟨k4, k5⟩ := hI.tail.tail.tail.tail.tail.pt
            gi_wp2_with fail
            refine ⟨trivial, (round_call (HK.call2 (HK.start (B := 0) hI) (on_is _ _ _ _ _ _ _ HM.out _))).mono ?_⟩
            rintro e A3 ⟨rfl, X1, gB⟩
            have RR := hI2.later gB
            clear k0 k1 k2 k3 k4 k5
            cases q
            · gi_wp2_with fail
              exact ⟨keeps_mono X1.k (Nat.zero_le _), X1.h.tail, RR, Lib.hid (anyTo_no hX.out HQ.out)⟩
            · have k9 := X1.h.tail.tail.tail.tail.tail.tail.fact (.head _) (i := 0) rfl
              have f9 := X1.h.tail.tail.tail.tail.tail.tail.free (.head _) (i := 0) rfl
              gi_wp2_with fail
              have X3 := X1.tail.tail.tail.tail.tail.tail.set 0 (by simp) (.bool true)
              exact ⟨keeps_mono X3.k (Nat.zero_le _), rfl, X3.h, HQ⟩
      · have f3 : (s1 == s2) = false := by rw [beq_eq_false_iff_ne]; exact e2
        have HE := Lib.hid (show ¬ (s1 ≠ 0 ∧ s1 = s2 ∧ s1 = s3) from fun h => e2 h.2.1)
        clear e1 e2
        go_wp2_with fail
        refine (Has.call C3 (side_is _ _ _ _ _ _ _ HS2.out _)).mono ?_
        rintro e w4 ⟨rfl, C4⟩
        clear k0 k1 k2 k3 k4 k5 k6 k7
        have HN := Lib.hid (show inP (a0, a1) (b0, b1) (c0, c1) (p0, p1) = r by rw [HR.out, if_neg HE.out])
        clear HR
        have X4 := C4
        clear C4
        obtain ⟨k0, k1⟩ := X4.pt
        obtain ⟨k2, k3⟩ := X4.tail.pt
        obtain ⟨k4, k5⟩ := X4.tail.tail.pt
        obtain ⟨k6, k7⟩ := X4.tail.tail.tail.pt
        go_wp2_with fail
        refine (border_is X4 a0 a1 b0 b1 c0 c1).mono ?_
        rintro e w7 ⟨ab, cb, rfl, hb, X5, g5⟩
        clear k0 k1 k2 k3 k4 k5 k6 k7 X4 g5
        go_wp2_with fail
        refine (segs_both X5 hb).mono ?_
        rintro e w8 ⟨⟨B, rfl, X6⟩, g6⟩
        have hb6 := hb.later g6
        clear X5 hb g6
        go_wp2_with fail
        refine (wpIn_wide (n := 5)).1 ?_
        have hM : w.heap.size + 4 < w8.heap.size := X6.tail.tail.tail.tail.tail.lt0
        refine range_sq (K := 3) (enc := fun k => #[.int .i64 k, .agg #[.int .i64 (pt (bdr (a0, a1) (b0, b1) (c0, c1)) k).1, .int .i64 (pt (bdr (a0, a1) (b0, b1) (c0, c1)) k).2, .int .i64 (pt (bdr (a0, a1) (b0, b1) (c0, c1)) (k + 1)).1, .int .i64 (pt (bdr (a0, a1) (b0, b1) (c0, c1)) (k + 1)).2]]) (Lv := fun W => W.cell? ⟨B, 0, none⟩ = some (.slice ab 4 cb) ∧ RowP W (.slice ab 4 cb) (bdr (a0, a1) (b0, b1) (c0, c1))) (w0 := w) rfl (enters_of Try.func75 (by kernel_rfl) rfl) (seg_seq _ (bdr (a0, a1) (b0, b1) (c0, c1)) (.slice ab 4 cb) B w) X6.low (fun _ => rfl)
          (fun k W => Has w [(B, [.slice ab 4 cb]), (w.heap.size, [.int .i64 a0, .int .i64 a1]), (w.heap.size + 1, [.int .i64 b0, .int .i64 b1]), (w.heap.size + 2, [.int .i64 c0, .int .i64 c1]), (w.heap.size + 3, [.int .i64 p0, .int .i64 p1]), (w.heap.size + 4, [.bool false])] W ∧ RowP W (.slice ab 4 cb) (bdr (a0, a1) (b0, b1) (c0, c1)) ∧ Hid (anyTo (onK (a0, a1) (b0, b1) (c0, c1) (p0, p1)) k = false))
          (fun c k W => c = .ret ∧ Has w [(w.heap.size + 4, [.bool true])] W ∧ Hid (onK (a0, a1) (b0, b1) (c0, c1) (p0, p1) k = true))
          (fun k a' W => ∃ g, a' = { tmps := #[.agg #[.int .i64 a0, .int .i64 a1], .agg #[.int .i64 b0, .int .i64 b1], .agg #[.int .i64 c0, .int .i64 c1], .agg #[.int .i64 p0, .int .i64 p1], .pointer (some ⟨w.heap.size, 0, none⟩), .pointer (some ⟨w.heap.size + 1, 0, none⟩), .pointer (some ⟨w.heap.size + 1 + 1, 0, none⟩), .pointer (some ⟨w.heap.size + 1 + 1 + 1, 0, none⟩), .pointer (some ⟨w.heap.size + 1 + 1 + 1 + 1, 0, none⟩), .int .i64 s1, undef, .pointer (some ⟨g, 0, none⟩), .agg #[.int .i64 a0, .int .i64 a1], .agg #[.int .i64 b0, .int .i64 b1], .agg #[.int .i64 c0, .int .i64 c1], .agg #[.int .i64 p0, .int .i64 p1], .slice (some ⟨w.heap.size + 1 + 1 + 1 + 1 + 1, 0, none⟩) 4 4, .bool true, .bool false, .agg #[.int .i64 a0, .int .i64 a1], .agg #[.int .i64 b0, .int .i64 b1], .agg #[.int .i64 p0, .int .i64 p1], .int .i64 s1, .int .i64 s1, .bool true, .bool true, .int .i64 s1, .agg #[.int .i64 b0, .int .i64 b1], .agg #[.int .i64 c0, .int .i64 c1], .agg #[.int .i64 p0, .int .i64 p1], .int .i64 s2, .bool false, .bool false, .bool false, undef, undef, undef, undef, undef, undef, .bool false, .agg #[.int .i64 a0, .int .i64 a1], .agg #[.int .i64 b0, .int .i64 b1], .agg #[.int .i64 c0, .int .i64 c1], .slice ab 4 cb, .func (.func 75) #[] #[.pointer (some ⟨B, 0, none⟩)], .int .i64 k, .agg #[.int .i64 (pt (bdr (a0, a1) (b0, b1) (c0, c1)) k).1, .int .i64 (pt (bdr (a0, a1) (b0, b1) (c0, c1)) k).2, .int .i64 (pt (bdr (a0, a1) (b0, b1) (c0, c1)) (k + 1)).1, .int .i64 (pt (bdr (a0, a1) (b0, b1) (c0, c1)) (k + 1)).2], undef, undef, undef, undef, undef, undef], defers := [] } ∧ Has w [(g, [.int .i64 (pt (bdr (a0, a1) (b0, b1) (c0, c1)) k).1, .int .i64 (pt (bdr (a0, a1) (b0, b1) (c0, c1)) k).2, .int .i64 (pt (bdr (a0, a1) (b0, b1) (c0, c1)) (k + 1)).1, .int .i64 (pt (bdr (a0, a1) (b0, b1) (c0, c1)) (k + 1)).2]), (B, [.slice ab 4 cb]), (w.heap.size, [.int .i64 a0, .int .i64 a1]), (w.heap.size + 1, [.int .i64 b0, .int .i64 b1]), (w.heap.size + 2, [.int .i64 c0, .int .i64 c1]), (w.heap.size + 3, [.int .i64 p0, .int .i64 p1]), (w.heap.size + 4, [.bool false])] W ∧ RowP W (.slice ab 4 cb) (bdr (a0, a1) (b0, b1) (c0, c1)) ∧ Hid (anyTo (onK (a0, a1) (b0, b1) (c0, c1) (p0, p1)) k = false))
          (fun k A W h g => ⟨h.1.later g, h.2.1.later g, h.2.2⟩) (fun c k A W h g => ⟨h.1, h.2.1.later g, h.2.2⟩) (fun k A h => ⟨h.1.fact (.head _) (i := 0) rfl, h.2.1⟩)
          (fun k A l o o' h hl ho hc => ⟨h.1.putObj (by omega) ho hc, h.2.1.putObj ho hc, h.2.2⟩) (fun c k A l o o' h hl ho hc => ⟨h.1, h.2.1.putObj (by omega) ho hc, h.2.2⟩)
          (fun k a' A l o o' h hl ho hc => by obtain ⟨g, e, hh, hx, hy⟩ := h; exact ⟨g, e, hh.putObj (by omega) ho hc, hx.putObj ho hc, hy⟩) ⟨X6, hb6, Lib.hid rfl⟩ ?assign ?body ?done ?stop
        case assign =>
          rintro _ k A T hk ⟨hI, hI2, hX⟩ hT
          generalize (pt (bdr (a0, a1) (b0, b1) (c0, c1)) k).1 = x0 at *
          generalize (pt (bdr (a0, a1) (b0, b1) (c0, c1)) k).2 = x1 at *
          generalize (pt (bdr (a0, a1) (b0, b1) (c0, c1)) (k + 1)).1 = x2 at *
          generalize (pt (bdr (a0, a1) (b0, b1) (c0, c1)) (k + 1)).2 = x3 at *
          gi_wp2_with fail
          have E := (HK.start (B := w8.heap.size) hI).push [.int .i64 x0, .int .i64 x1, .int .i64 x2, .int .i64 x3] 64
          exact hT _ _ E.k ⟨_, rfl, E.h, hI2.later ((Below.refl _ A).alloc (Nat.le_refl _) _), hX⟩
        case done =>
          rintro D A hD ⟨hI, hI2, hX⟩ hK
          have hr : r = false := HF.out.symm.trans hX.out
          subst hr
          have k0 := hI.tail.tail.tail.tail.tail.fact (.head _) (i := 0) rfl
          have f0 := hI.tail.tail.tail.tail.tail.free (.head _) (i := 0) rfl
          gi_wp2_with fail
          go_wp2_with fail
          have X2 := hI.tail.tail.tail.tail.tail.set 0 (by simp) (.bool false)
          have hK2 := (keeps_set (B := 0) A ⟨w.heap.size + 4, 0, none⟩ (.bool false)).same D _ (Nat.zero_le _) hK rfl
          change Has w _ (A.setCell ⟨w.heap.size + 1 + 1 + 1 + 1, 0, none⟩ (.bool false)) at X2
          change (A.setCell ⟨w.heap.size + 1 + 1 + 1 + 1, 0, none⟩ (.bool false)).heap[D]? = _ at hK2
          generalize A.setCell ⟨w.heap.size + 1 + 1 + 1 + 1, 0, none⟩ (.bool false) = A2 at *
          refine ⟨by simp, .inl ⟨_, _, rfl, run_takeDeferred hK2, ?_⟩⟩
          have X3 := X2.putObj (ob' := .deferred none) (by omega) hK2 rfl
          have d0 : (A2.putObj D (.deferred none)).cell? ⟨w.heap.size + 1 + 1 + 1 + 1, 0, none⟩ = some (.bool false) := X3.fact (.head _) (i := 0) rfl
          exact ⟨.bool false, by simp [results, Try.results29, go_sem, d0], by rw [HN.out], X3.low⟩
        case stop =>
          rintro D c k A hD hk ⟨rfl, hI, hX⟩ hK
          have hr : true = r := (anyTo_yes hX.out hk).trans HF.out
          subst hr
          gi_wp2_with fail
          refine ⟨by simp, .inl ⟨_, _, rfl, run_takeDeferred hK, ?_⟩⟩
          have X3 := hI.putObj (ob' := .deferred none) (by omega) hK rfl
          have d0 : (A.putObj D (.deferred none)).cell? ⟨w.heap.size + 1 + 1 + 1 + 1, 0, none⟩ = some (.bool true) := X3.fact (.head _) (i := 0) rfl
          exact ⟨.bool true, by simp [results, Try.results29, go_sem, d0], by rw [HN.out], X3.low⟩
        case body =>
          rintro lo k a' A hl - ⟨gt, rfl, hI, hI2, hX⟩ hk
          obtain ⟨q, hq⟩ : ∃ q, onK (a0, a1) (b0, b1) (c0, c1) (p0, p1) k = q := ⟨_, rfl⟩
          have hm : onOf (pt (bdr (a0, a1) (b0, b1) (c0, c1)) k).1 (pt (bdr (a0, a1) (b0, b1) (c0, c1)) k).2 (pt (bdr (a0, a1) (b0, b1) (c0, c1)) (k + 1)).1 (pt (bdr (a0, a1) (b0, b1) (c0, c1)) (k + 1)).2 p0 p1 = q := hq
          generalize (pt (bdr (a0, a1) (b0, b1) (c0, c1)) k).1 = x0 at *
          generalize (pt (bdr (a0, a1) (b0, b1) (c0, c1)) k).2 = x1 at *
          generalize (pt (bdr (a0, a1) (b0, b1) (c0, c1)) (k + 1)).1 = x2 at *
          generalize (pt (bdr (a0, a1) (b0, b1) (c0, c1)) (k + 1)).2 = x3 at *
          have HM := Lib.hid hm
          have HQ := Lib.hid hq
          clear hm hq
          obtain ⟨k0, k1, k2, k3⟩ := hI.one4
          obtain ⟨k4, k5⟩ := hI.tail.tail.tail.tail.tail.pt
          gi_wp2_with fail
          refine ⟨trivial, (round_call (HK.call2 (HK.start (B := 0) hI) (on_is _ _ _ _ _ _ _ HM.out _))).mono ?_⟩
          rintro e A3 ⟨rfl, X1, gB⟩
          have RR := hI2.later gB
          clear k0 k1 k2 k3 k4 k5
          cases q
          · gi_wp2_with fail
            exact ⟨keeps_mono X1.k (Nat.zero_le _), X1.h.tail, RR, Lib.hid (anyTo_no hX.out HQ.out)⟩
          · have k9 := X1.h.tail.tail.tail.tail.tail.tail.fact (.head _) (i := 0) rfl
            have f9 := X1.h.tail.tail.tail.tail.tail.tail.free (.head _) (i := 0) rfl
            gi_wp2_with fail
            have X3 := X1.tail.tail.tail.tail.tail.tail.set 0 (by simp) (.bool true)
            exact ⟨keeps_mono X3.k (Nat.zero_le _), rfl, X3.h, HQ⟩

end Go.Proofs.Ytkejilomempogaa

namespace Go.Proofs.Ytkejilomempogaa
open Go.RowKit Go.Lib

/-- Whether an end of a segment, other than a and c, is in a triangle. -/
def hitP (a b c x : Int × Int) : Bool := !eqP x a && (!eqP x c && inP a b c x)
def tbK (a b c d e : Int × Int) (k : Nat) : Bool := mbP (pt (bdr a b c) k).1 (pt (bdr a b c) k).2 (pt (bdr a b c) (k + 1)).1 (pt (bdr a b c) (k + 1)).2 d.1 d.2 e.1 e.2 [a, c]
def touchP (a b c d e : Int × Int) : Bool := [a, b, c, d, e].all rtP && (nearP (bdr a b c) [d, e] && (hitP a b c d || (hitP a b c e || anyTo (tbK a b c d e) 3)))
theorem has6 {w : World} (xs ys zs us vs ts : List Value) (T U V X Y Z : TypeId) : Has w [(w.heap.size, xs), (w.heap.size + 1, ys), (w.heap.size + 2, zs), (w.heap.size + 3, us), (w.heap.size + 4, vs), (w.heap.size + 5, ts)] ((((((w.alloc (.cells xs.toArray T)).alloc (.cells ys.toArray U)).alloc (.cells zs.toArray V)).alloc (.cells us.toArray X)).alloc (.cells vs.toArray Y)).alloc (.cells ts.toArray Z)) := by
  have h := (has5 (w := w) xs ys zs us vs T U V X Y).push ts Z
  rw [size_alloc, size_alloc, size_alloc, size_alloc, size_alloc] at h
  exact h.perm ((List.Perm.swap _ _ _).trans (.cons _ ((List.Perm.swap _ _ _).trans (.cons _ ((List.Perm.swap _ _ _).trans (.cons _ ((List.Perm.swap _ _ _).trans (.cons _ (.swap _ _ _)))))))))
theorem Last6 {α : Type} (a b c d e x : α) : List.Perm [a, b, c, d, e, x] [x, a, b, c, d, e] :=
  ((List.Perm.cons _ (Last5 b c d e x)).trans (.swap _ _ _))
theorem in_is (a0 a1 b0 b1 c0 c1 p0 p1 : Int) (w : World) (r : Bool) (h : inP (a0, a1) (b0, b1) (c0, c1) (p0, p1) = r) :
    Calls Try.prog 29 #[.agg #[.int .i64 a0, .int .i64 a1], .agg #[.int .i64 b0, .int .i64 b1], .agg #[.int .i64 c0, .int .i64 c1], .agg #[.int .i64 p0, .int .i64 p1]] w fun e w' => e = .returned (.bool r) ∧ Below w.heap.size w w' := h ▸ lin_any a0 a1 b0 b1 c0 c1 p0 p1 w
/-- How far the loop over the ends has come. -/
def HitI (f g : Bool) (z : Value) : Prop := z = .int .i64 0 ∨ (z = .int .i64 1 ∧ f = false) ∨ (z = .int .i64 2 ∧ f = false ∧ g = false)
theorem HitI.zero (f g : Bool) : HitI f g (.int .i64 0) := .inl rfl
theorem HitI.one {f : Bool} (g : Bool) (h : f = false) : HitI f g (.int .i64 1) := .inr (.inl ⟨rfl, h⟩)
theorem HitI.two {f g : Bool} (h : f = false) (k : g = false) : HitI f g (.int .i64 2) := .inr (.inr ⟨rfl, h, k⟩)

theorem Calls.two {w0 w : World} {bs : List (Nat × List Value)} {k : FuncId} {args : Array Value} {E : Ending} {P : Program} (h : Has w0 bs w) (hc : Calls P k args w fun e w' => e = E ∧ Below w.heap.size w w') : Calls P k args w fun e w' => e = E ∧ Has w0 bs w' ∧ Grows w w' :=
  hc.mono fun _ _ ⟨h1, h2⟩ => ⟨h1, h.later h2, h2⟩
attribute [local go_sem] Oper.semAt_some
set_option linter.unusedSimpArgs false in
set_option maxRecDepth 100000 in
set_option maxHeartbeats 16000000 in
theorem touches_any (a0 a1 b0 b1 c0 c1 d0 d1 e0 e1 : Int) (w : World) :
    Calls Try.prog 30 #[.agg #[.int .i64 a0, .int .i64 a1], .agg #[.int .i64 b0, .int .i64 b1], .agg #[.int .i64 c0, .int .i64 c1], .agg #[.int .i64 d0, .int .i64 d1], .agg #[.int .i64 e0, .int .i64 e1]] w fun e w' => e = .returned (.bool (touchP (a0, a1) (b0, b1) (c0, c1) (d0, d1) (e0, e1))) ∧ Below w.heap.size w w' := by
  have C0 := has6 (w := w) [.int .i64 a0, .int .i64 a1] [.int .i64 b0, .int .i64 b1] [.int .i64 c0, .int .i64 c1] [.int .i64 d0, .int .i64 d1] [.int .i64 e0, .int .i64 e1] [.bool false] 36 36 36 36 36 4
  cases h1 : [(a0, a1), (b0, b1), (c0, c1), (d0, d1), (e0, e1)].all rtP
  · have HR := Lib.hid (show touchP (a0, a1) (b0, b1) (c0, c1) (d0, d1) (e0, e1) = false by unfold touchP; rw [h1]; rfl)
    have H1 := Lib.hid h1
    clear h1
    go_enter Try.func30, Try.ntmps30
    go_upto_region 1 with fail
    change Has w _ ((((((w.alloc (.cells #[.int .i64 a0, .int .i64 a1] 36)).alloc (.cells #[.int .i64 b0, .int .i64 b1] 36)).alloc (.cells #[.int .i64 c0, .int .i64 c1] 36)).alloc (.cells #[.int .i64 d0, .int .i64 d1] 36)).alloc (.cells #[.int .i64 e0, .int .i64 e1] 36)).alloc (.cells #[.bool false] 4)) at C0
    generalize (((((w.alloc (.cells #[.int .i64 a0, .int .i64 a1] 36)).alloc (.cells #[.int .i64 b0, .int .i64 b1] 36)).alloc (.cells #[.int .i64 c0, .int .i64 c1] 36)).alloc (.cells #[.int .i64 d0, .int .i64 d1] 36)).alloc (.cells #[.int .i64 e0, .int .i64 e1] 36)).alloc (.cells #[.bool false] 4) = w1 at *
    obtain ⟨k0, k1⟩ := C0.pt
    obtain ⟨k2, k3⟩ := C0.tail.pt
    obtain ⟨k4, k5⟩ := C0.tail.tail.pt
    obtain ⟨k6, k7⟩ := C0.tail.tail.tail.pt
    obtain ⟨k8, k9⟩ := C0.tail.tail.tail.tail.pt
    go_wp2_with fail
    refine (border_is C0 a0 a1 b0 b1 c0 c1).mono ?_
    rintro e w2 ⟨ab, cb, rfl, hb, C1, g1⟩
    clear k0 k1 k2 k3 k4 k5 k6 k7 k8 k9
    obtain ⟨k0, k1⟩ := C1.pt
    obtain ⟨k2, k3⟩ := C1.tail.pt
    obtain ⟨k4, k5⟩ := C1.tail.tail.pt
    obtain ⟨k6, k7⟩ := C1.tail.tail.tail.pt
    obtain ⟨k8, k9⟩ := C1.tail.tail.tail.tail.pt
    obtain ⟨C2, R2⟩ := one_row C1 rfl [(a0, a1), (b0, b1), (c0, c1), (d0, d1), (e0, e1)] (by simp)
    have hb2 := hb.later ((Below.refl _ w2).alloc (Nat.le_refl _) (.cells (flat [(a0, a1), (b0, b1), (c0, c1), (d0, d1), (e0, e1)]).toArray 36))
    go_wp2_with fail
    refine (Calls.two C2 (rights_is _ _ _ R2 _ H1.out)).mono ?_
    rintro e w3 ⟨rfl, C3, g3⟩
    have hb3 := hb2.later g3
    clear k0 k1 k2 k3 k4 k5 k6 k7 k8 k9
    clear C0 C1 C2 R2 hb hb2 g1 g3
    have CZ := C3.tail.perm (Last6 _ _ _ _ _ _)
    have k9 := CZ.fact (.head _) (i := 0) rfl
    have f9 := CZ.free (.head _) (i := 0) rfl
    go_wp2_with fail
    have CY := CZ.set 0 (by simp) (.bool false)
    change Has w _ (w3.setCell ⟨w.heap.size + 1 + 1 + 1 + 1 + 1, 0, none⟩ (.bool false)) at CY
    generalize w3.setCell ⟨w.heap.size + 1 + 1 + 1 + 1 + 1, 0, none⟩ (.bool false) = wz at *
    have d0 : wz.cell? ⟨w.heap.size + 1 + 1 + 1 + 1 + 1, 0, none⟩ = some (.bool false) := CY.fact (.head _) (i := 0) rfl
    exact bodyPost_ret (v := .bool false) (by simp [results, Try.results30, go_sem, d0]) rfl ⟨by rw [HR.out], CY.low⟩
  · cases h2 : nearP (bdr (a0, a1) (b0, b1) (c0, c1)) [(d0, d1), (e0, e1)]
    · have HR := Lib.hid (show touchP (a0, a1) (b0, b1) (c0, c1) (d0, d1) (e0, e1) = false by unfold touchP; rw [h1, h2]; rfl)
      have H1 := Lib.hid h1
      have H2 := Lib.hid h2
      clear h1 h2
      go_enter Try.func30, Try.ntmps30
      go_upto_region 1 with fail
      change Has w _ ((((((w.alloc (.cells #[.int .i64 a0, .int .i64 a1] 36)).alloc (.cells #[.int .i64 b0, .int .i64 b1] 36)).alloc (.cells #[.int .i64 c0, .int .i64 c1] 36)).alloc (.cells #[.int .i64 d0, .int .i64 d1] 36)).alloc (.cells #[.int .i64 e0, .int .i64 e1] 36)).alloc (.cells #[.bool false] 4)) at C0
      generalize (((((w.alloc (.cells #[.int .i64 a0, .int .i64 a1] 36)).alloc (.cells #[.int .i64 b0, .int .i64 b1] 36)).alloc (.cells #[.int .i64 c0, .int .i64 c1] 36)).alloc (.cells #[.int .i64 d0, .int .i64 d1] 36)).alloc (.cells #[.int .i64 e0, .int .i64 e1] 36)).alloc (.cells #[.bool false] 4) = w1 at *
      obtain ⟨k0, k1⟩ := C0.pt
      obtain ⟨k2, k3⟩ := C0.tail.pt
      obtain ⟨k4, k5⟩ := C0.tail.tail.pt
      obtain ⟨k6, k7⟩ := C0.tail.tail.tail.pt
      obtain ⟨k8, k9⟩ := C0.tail.tail.tail.tail.pt
      go_wp2_with fail
      refine (border_is C0 a0 a1 b0 b1 c0 c1).mono ?_
      rintro e w2 ⟨ab, cb, rfl, hb, C1, g1⟩
      clear k0 k1 k2 k3 k4 k5 k6 k7 k8 k9
      obtain ⟨k0, k1⟩ := C1.pt
      obtain ⟨k2, k3⟩ := C1.tail.pt
      obtain ⟨k4, k5⟩ := C1.tail.tail.pt
      obtain ⟨k6, k7⟩ := C1.tail.tail.tail.pt
      obtain ⟨k8, k9⟩ := C1.tail.tail.tail.tail.pt
      obtain ⟨C2, R2⟩ := one_row C1 rfl [(a0, a1), (b0, b1), (c0, c1), (d0, d1), (e0, e1)] (by simp)
      have hb2 := hb.later ((Below.refl _ w2).alloc (Nat.le_refl _) (.cells (flat [(a0, a1), (b0, b1), (c0, c1), (d0, d1), (e0, e1)]).toArray 36))
      go_wp2_with fail
      refine (Calls.two C2 (rights_is _ _ _ R2 _ H1.out)).mono ?_
      rintro e w3 ⟨rfl, C3, g3⟩
      have hb3 := hb2.later g3
      clear k0 k1 k2 k3 k4 k5 k6 k7 k8 k9
      clear C0 C1 C2 R2 hb hb2 g1 g3
      obtain ⟨k0, k1⟩ := C3.tail.pt
      obtain ⟨k2, k3⟩ := C3.tail.tail.pt
      obtain ⟨k4, k5⟩ := C3.tail.tail.tail.pt
      obtain ⟨k6, k7⟩ := C3.tail.tail.tail.tail.pt
      obtain ⟨k8, k9⟩ := C3.tail.tail.tail.tail.tail.pt
      obtain ⟨C4, R4⟩ := one_row C3.tail rfl [(d0, d1), (e0, e1)] (by simp)
      have hb4 := hb3.later ((Below.refl _ w3).alloc (Nat.le_refl _) (.cells (flat [(d0, d1), (e0, e1)]).toArray 36))
      go_wp2_with fail
      refine (Calls.two C4 (lnear_is _ _ _ _ _ hb4 R4 _ H2.out)).mono ?_
      rintro e w4 ⟨rfl, C5, g5⟩
      have hb5 := hb4.later g5
      clear k0 k1 k2 k3 k4 k5 k6 k7 k8 k9
      clear C3 C4 R4 hb3 hb4 g5
      have CZ := C5.tail.perm (Last6 _ _ _ _ _ _)
      have k9 := CZ.fact (.head _) (i := 0) rfl
      have f9 := CZ.free (.head _) (i := 0) rfl
      go_wp2_with fail
      have CY := CZ.set 0 (by simp) (.bool false)
      change Has w _ (w4.setCell ⟨w.heap.size + 1 + 1 + 1 + 1 + 1, 0, none⟩ (.bool false)) at CY
      generalize w4.setCell ⟨w.heap.size + 1 + 1 + 1 + 1 + 1, 0, none⟩ (.bool false) = wz at *
      have d0 : wz.cell? ⟨w.heap.size + 1 + 1 + 1 + 1 + 1, 0, none⟩ = some (.bool false) := CY.fact (.head _) (i := 0) rfl
      exact bodyPost_ret (v := .bool false) (by simp [results, Try.results30, go_sem, d0]) rfl ⟨by rw [HR.out], CY.low⟩
    · obtain ⟨f, hf⟩ : ∃ v, hitP (a0, a1) (b0, b1) (c0, c1) (d0, d1) = v := ⟨_, rfl⟩
      obtain ⟨g, hg⟩ : ∃ v, hitP (a0, a1) (b0, b1) (c0, c1) (e0, e1) = v := ⟨_, rfl⟩
      obtain ⟨r, hr⟩ : ∃ v, anyTo (tbK (a0, a1) (b0, b1) (c0, c1) (d0, d1) (e0, e1)) 3 = v := ⟨_, rfl⟩
      have HR := Lib.hid (show touchP (a0, a1) (b0, b1) (c0, c1) (d0, d1) (e0, e1) = (f || (g || r)) by unfold touchP; rw [h1, h2, hf, hg, hr]; rfl)
      have H1 := Lib.hid h1
      have H2 := Lib.hid h2
      have HFD := Lib.hid hf
      have HFE := Lib.hid hg
      have HF := Lib.hid hr
      clear h1 h2 hf hg hr
      refine (callsIn_wide (n := 5)).1 ?_
      refine callsIn_of_wp_marks Try.func30 rfl trivial ?_ rfl
      simp only [Try.ntmps30, List.size_toArray, List.length_cons, List.length_nil, Nat.reduceAdd, Nat.reduceSub, Array.replicate_succ, Array.replicate_zero, List.push_toArray, List.append_toArray, List.nil_append, List.cons_append]
      refine wpIn_wide.2 ?_
      go_upto_region 1 with fail
      change Has w _ ((((((w.alloc (.cells #[.int .i64 a0, .int .i64 a1] 36)).alloc (.cells #[.int .i64 b0, .int .i64 b1] 36)).alloc (.cells #[.int .i64 c0, .int .i64 c1] 36)).alloc (.cells #[.int .i64 d0, .int .i64 d1] 36)).alloc (.cells #[.int .i64 e0, .int .i64 e1] 36)).alloc (.cells #[.bool false] 4)) at C0
      generalize (((((w.alloc (.cells #[.int .i64 a0, .int .i64 a1] 36)).alloc (.cells #[.int .i64 b0, .int .i64 b1] 36)).alloc (.cells #[.int .i64 c0, .int .i64 c1] 36)).alloc (.cells #[.int .i64 d0, .int .i64 d1] 36)).alloc (.cells #[.int .i64 e0, .int .i64 e1] 36)).alloc (.cells #[.bool false] 4) = w1 at *
      obtain ⟨k0, k1⟩ := C0.pt
      obtain ⟨k2, k3⟩ := C0.tail.pt
      obtain ⟨k4, k5⟩ := C0.tail.tail.pt
      obtain ⟨k6, k7⟩ := C0.tail.tail.tail.pt
      obtain ⟨k8, k9⟩ := C0.tail.tail.tail.tail.pt
      go_wp2_with fail
      refine (border_is C0 a0 a1 b0 b1 c0 c1).mono ?_
      rintro e w2 ⟨ab, cb, rfl, hb, C1, g1⟩
      clear k0 k1 k2 k3 k4 k5 k6 k7 k8 k9
      obtain ⟨k0, k1⟩ := C1.pt
      obtain ⟨k2, k3⟩ := C1.tail.pt
      obtain ⟨k4, k5⟩ := C1.tail.tail.pt
      obtain ⟨k6, k7⟩ := C1.tail.tail.tail.pt
      obtain ⟨k8, k9⟩ := C1.tail.tail.tail.tail.pt
      obtain ⟨C2, R2⟩ := one_row C1 rfl [(a0, a1), (b0, b1), (c0, c1), (d0, d1), (e0, e1)] (by simp)
      have hb2 := hb.later ((Below.refl _ w2).alloc (Nat.le_refl _) (.cells (flat [(a0, a1), (b0, b1), (c0, c1), (d0, d1), (e0, e1)]).toArray 36))
      go_wp2_with fail
      refine (Calls.two C2 (rights_is _ _ _ R2 _ H1.out)).mono ?_
      rintro e w3 ⟨rfl, C3, g3⟩
      have hb3 := hb2.later g3
      clear k0 k1 k2 k3 k4 k5 k6 k7 k8 k9
      clear C0 C1 C2 R2 hb hb2 g1 g3
      obtain ⟨k0, k1⟩ := C3.tail.pt
      obtain ⟨k2, k3⟩ := C3.tail.tail.pt
      obtain ⟨k4, k5⟩ := C3.tail.tail.tail.pt
      obtain ⟨k6, k7⟩ := C3.tail.tail.tail.tail.pt
      obtain ⟨k8, k9⟩ := C3.tail.tail.tail.tail.tail.pt
      obtain ⟨C4, R4⟩ := one_row C3.tail rfl [(d0, d1), (e0, e1)] (by simp)
      have hb4 := hb3.later ((Below.refl _ w3).alloc (Nat.le_refl _) (.cells (flat [(d0, d1), (e0, e1)]).toArray 36))
      go_wp2_with fail
      refine (Calls.two C4 (lnear_is _ _ _ _ _ hb4 R4 _ H2.out)).mono ?_
      rintro e w4 ⟨rfl, C5, g5⟩
      have hb5 := hb4.later g5
      clear k0 k1 k2 k3 k4 k5 k6 k7 k8 k9
      clear C3 C4 R4 hb3 hb4 g5
      obtain ⟨k0, k1⟩ := C5.tail.pt
      obtain ⟨k2, k3⟩ := C5.tail.tail.pt
      obtain ⟨k4, k5⟩ := C5.tail.tail.tail.pt
      obtain ⟨k6, k7⟩ := C5.tail.tail.tail.tail.pt
      obtain ⟨k8, k9⟩ := C5.tail.tail.tail.tail.tail.pt
      have C6 := C5.tail
      clear C5
      go_wp2_with fail
      clear k0 k1 k2 k3 k4 k5 k6 k7 k8 k9
      go_loopw [39] (fun z wr => HitI f g z ∧ Has w [(w.heap.size, [.int .i64 a0, .int .i64 a1]), (w.heap.size + 1, [.int .i64 b0, .int .i64 b1]), (w.heap.size + 2, [.int .i64 c0, .int .i64 c1]), (w.heap.size + 3, [.int .i64 d0, .int .i64 d1]), (w.heap.size + 4, [.int .i64 e0, .int .i64 e1]), (w.heap.size + 5, [.bool false])] wr ∧ RowP wr (.slice ab 4 cb) (bdr (a0, a1) (b0, b1) (c0, c1))) (fun z _ => (2 - RowKit.intOf z).toNat)
      case atStart => exact ⟨HitI.zero f g, C6, hb5⟩
      case round =>
        clear C6 hb5
        obtain ⟨hz, hI, hI2⟩ := hrel
        rcases hz with rfl | ⟨rfl, hf⟩ | ⟨rfl, hf, hg⟩
        · have E2 := hI.push [.int .i64 d0, .int .i64 d1] 36
          have hI3 := hI2.later ((Below.refl _ wr).alloc (Nat.le_refl _) (.cells #[.int .i64 d0, .int .i64 d1] 36))
          change Has w _ (wr.alloc (.cells #[.int .i64 d0, .int .i64 d1] 36)) at E2
          obtain ⟨k0, k1⟩ := E2.tail.pt
          obtain ⟨k2, k3⟩ := E2.tail.tail.pt
          obtain ⟨k4, k5⟩ := E2.tail.tail.tail.pt
          obtain ⟨k6, k7⟩ := E2.tail.tail.tail.tail.pt
          obtain ⟨k8, k9⟩ := E2.tail.tail.tail.tail.tail.pt
          obtain ⟨k10, k11⟩ := E2.pt
          have i0 : ∀ w, (Instr.index 77 (.agg #[.int .i64 d0, .int .i64 d1, .int .i64 e0, .int .i64 e1]) (.int .i64 0)).run Try.prog w = .ok (.agg #[.int .i64 d0, .int .i64 d1]) w := fun _ => by kernel_rfl
          rcases eq3 d0 d1 a0 a1 with ⟨e1', e2', e3'⟩ | ⟨e1', e2', e3'⟩ | ⟨e1', e3'⟩
          · have HN := Lib.hid (show f = false by rw [← HFD.out]; unfold hitP eqP; rw [e3']; rfl)
            clear e3'
            go_wp2_with fail
            go_roundw
            case rel => exact ⟨HitI.one g HN.out, E2.tail, hI3⟩
            case measure => simp [RowKit.intOf]
          all_goals
            rcases eq3 d0 d1 c0 c1 with ⟨g1', g2', g3'⟩ | ⟨g1', g2', g3'⟩ | ⟨g1', g3'⟩
            · have HN := Lib.hid (show f = false by rw [← HFD.out]; unfold hitP eqP; rw [e3', g3']; rfl)
              clear e3' g3'
              go_wp2_with fail
              go_roundw
              case rel => exact ⟨HitI.one g HN.out, E2.tail, hI3⟩
              case measure => simp [RowKit.intOf]
            all_goals
              obtain ⟨q, hq⟩ : ∃ q, inP (a0, a1) (b0, b1) (c0, c1) (d0, d1) = q := ⟨_, rfl⟩
              have HN := Lib.hid (show f = q by rw [← HFD.out]; unfold hitP eqP; rw [e3', g3', hq]; rfl)
              have HQ := Lib.hid hq
              clear hq e3' g3'
              go_wp2_with fail
              refine (Calls.two E2 (in_is _ _ _ _ _ _ _ _ _ _ HQ.out)).mono ?_
              rintro e w5 ⟨rfl, E3, g3⟩
              have hI4 := hI3.later g3
              clear k0 k1 k2 k3 k4 k5 k6 k7 k8 k9 k10 k11 e1' g1'
              try clear e2'
              try clear g2'
              cases q
              · go_wp2_with fail
                go_roundw
                case rel => exact ⟨HitI.one g HN.out, E3.tail, hI4⟩
                case measure => simp [RowKit.intOf]
              · have HRR := Lib.hid (show touchP (a0, a1) (b0, b1) (c0, c1) (d0, d1) (e0, e1) = true by rw [HR.out, HN.out]; rfl)
                have CZ := E3.tail.perm (Last6 _ _ _ _ _ _)
                have k9 := CZ.fact (.head _) (i := 0) rfl
                have f9 := CZ.free (.head _) (i := 0) rfl
                go_wp2_with fail
                have CY := CZ.set 0 (by simp) (.bool true)
                change Has w _ (w5.setCell ⟨w.heap.size + 1 + 1 + 1 + 1 + 1, 0, none⟩ (.bool true)) at CY
                generalize w5.setCell ⟨w.heap.size + 1 + 1 + 1 + 1 + 1, 0, none⟩ (.bool true) = wz at *
                have d0 : wz.cell? ⟨w.heap.size + 1 + 1 + 1 + 1 + 1, 0, none⟩ = some (.bool true) := CY.fact (.head _) (i := 0) rfl
                exact ⟨.bool true, by simp [results, Try.results30, go_sem, d0], by rw [HRR.out], CY.low⟩
        · have HPREV := Lib.hid hf
          clear hf
          have E2 := hI.push [.int .i64 e0, .int .i64 e1] 36
          have hI3 := hI2.later ((Below.refl _ wr).alloc (Nat.le_refl _) (.cells #[.int .i64 e0, .int .i64 e1] 36))
          change Has w _ (wr.alloc (.cells #[.int .i64 e0, .int .i64 e1] 36)) at E2
          obtain ⟨k0, k1⟩ := E2.tail.pt
          obtain ⟨k2, k3⟩ := E2.tail.tail.pt
          obtain ⟨k4, k5⟩ := E2.tail.tail.tail.pt
          obtain ⟨k6, k7⟩ := E2.tail.tail.tail.tail.pt
          obtain ⟨k8, k9⟩ := E2.tail.tail.tail.tail.tail.pt
          obtain ⟨k10, k11⟩ := E2.pt
          have i0 : ∀ w, (Instr.index 77 (.agg #[.int .i64 d0, .int .i64 d1, .int .i64 e0, .int .i64 e1]) (.int .i64 1)).run Try.prog w = .ok (.agg #[.int .i64 e0, .int .i64 e1]) w := fun _ => by kernel_rfl
          rcases eq3 e0 e1 a0 a1 with ⟨e1', e2', e3'⟩ | ⟨e1', e2', e3'⟩ | ⟨e1', e3'⟩
          · have HN := Lib.hid (show g = false by rw [← HFE.out]; unfold hitP eqP; rw [e3']; rfl)
            clear e3'
            go_wp2_with fail
            go_roundw
            case rel => exact ⟨HitI.two HPREV.out HN.out, E2.tail, hI3⟩
            case measure => simp [RowKit.intOf]
          all_goals
            rcases eq3 e0 e1 c0 c1 with ⟨g1', g2', g3'⟩ | ⟨g1', g2', g3'⟩ | ⟨g1', g3'⟩
            · have HN := Lib.hid (show g = false by rw [← HFE.out]; unfold hitP eqP; rw [e3', g3']; rfl)
              clear e3' g3'
              go_wp2_with fail
              go_roundw
              case rel => exact ⟨HitI.two HPREV.out HN.out, E2.tail, hI3⟩
              case measure => simp [RowKit.intOf]
            all_goals
              obtain ⟨q, hq⟩ : ∃ q, inP (a0, a1) (b0, b1) (c0, c1) (e0, e1) = q := ⟨_, rfl⟩
              have HN := Lib.hid (show g = q by rw [← HFE.out]; unfold hitP eqP; rw [e3', g3', hq]; rfl)
              have HQ := Lib.hid hq
              clear hq e3' g3'
              go_wp2_with fail
              refine (Calls.two E2 (in_is _ _ _ _ _ _ _ _ _ _ HQ.out)).mono ?_
              rintro e w5 ⟨rfl, E3, g3⟩
              have hI4 := hI3.later g3
              clear k0 k1 k2 k3 k4 k5 k6 k7 k8 k9 k10 k11 e1' g1'
              try clear e2'
              try clear g2'
              cases q
              · go_wp2_with fail
                go_roundw
                case rel => exact ⟨HitI.two HPREV.out HN.out, E3.tail, hI4⟩
                case measure => simp [RowKit.intOf]
              · have HRR := Lib.hid (show touchP (a0, a1) (b0, b1) (c0, c1) (d0, d1) (e0, e1) = true by rw [HR.out, HPREV.out, HN.out]; rfl)
                have CZ := E3.tail.perm (Last6 _ _ _ _ _ _)
                have k9 := CZ.fact (.head _) (i := 0) rfl
                have f9 := CZ.free (.head _) (i := 0) rfl
                go_wp2_with fail
                have CY := CZ.set 0 (by simp) (.bool true)
                change Has w _ (w5.setCell ⟨w.heap.size + 1 + 1 + 1 + 1 + 1, 0, none⟩ (.bool true)) at CY
                generalize w5.setCell ⟨w.heap.size + 1 + 1 + 1 + 1 + 1, 0, none⟩ (.bool true) = wz at *
                have d0 : wz.cell? ⟨w.heap.size + 1 + 1 + 1 + 1 + 1, 0, none⟩ = some (.bool true) := CY.fact (.head _) (i := 0) rfl
                exact ⟨.bool true, by simp [results, Try.results30, go_sem, d0], by rw [HRR.out], CY.low⟩
        · have HPREV := Lib.hid hf
          have HPRE2 := Lib.hid hg
          clear hf hg
          go_wp2_with fail
          refine (segs_both hI hI2).mono ?_
          rintro e w8 ⟨⟨B, rfl, X6⟩, g6⟩
          have hb6 := hI2.later g6
          clear hI hI2 g6
          go_wp2_with fail
          refine (wpIn_wide (n := 5)).1 ?_
          have hM : w.heap.size + 5 < w8.heap.size := X6.tail.tail.tail.tail.tail.tail.lt0
          refine range_sq (K := 3) (enc := fun k => #[.int .i64 k, .agg #[.int .i64 (pt (bdr (a0, a1) (b0, b1) (c0, c1)) k).1, .int .i64 (pt (bdr (a0, a1) (b0, b1) (c0, c1)) k).2, .int .i64 (pt (bdr (a0, a1) (b0, b1) (c0, c1)) (k + 1)).1, .int .i64 (pt (bdr (a0, a1) (b0, b1) (c0, c1)) (k + 1)).2]]) (Lv := fun W => W.cell? ⟨B, 0, none⟩ = some (.slice ab 4 cb) ∧ RowP W (.slice ab 4 cb) (bdr (a0, a1) (b0, b1) (c0, c1))) (w0 := w) rfl (enters_of Try.func75 (by kernel_rfl) rfl) (seg_seq _ (bdr (a0, a1) (b0, b1) (c0, c1)) (.slice ab 4 cb) B w) X6.low (fun _ => rfl)
            (fun k W => Has w [(B, [.slice ab 4 cb]), (w.heap.size, [.int .i64 a0, .int .i64 a1]), (w.heap.size + 1, [.int .i64 b0, .int .i64 b1]), (w.heap.size + 2, [.int .i64 c0, .int .i64 c1]), (w.heap.size + 3, [.int .i64 d0, .int .i64 d1]), (w.heap.size + 4, [.int .i64 e0, .int .i64 e1]), (w.heap.size + 5, [.bool false])] W ∧ RowP W (.slice ab 4 cb) (bdr (a0, a1) (b0, b1) (c0, c1)) ∧ Hid (anyTo (tbK (a0, a1) (b0, b1) (c0, c1) (d0, d1) (e0, e1)) k = false))
            (fun c k W => c = .ret ∧ Has w [(w.heap.size + 5, [.bool true])] W ∧ Hid (tbK (a0, a1) (b0, b1) (c0, c1) (d0, d1) (e0, e1) k = true))
            (fun k a' W => ∃ g, a' = { tmps := #[.agg #[.int .i64 a0, .int .i64 a1], .agg #[.int .i64 b0, .int .i64 b1], .agg #[.int .i64 c0, .int .i64 c1], .agg #[.int .i64 d0, .int .i64 d1], .agg #[.int .i64 e0, .int .i64 e1], .pointer (some ⟨w.heap.size, 0, none⟩), .pointer (some ⟨w.heap.size + 1, 0, none⟩), .pointer (some ⟨w.heap.size + 1 + 1, 0, none⟩), .pointer (some ⟨w.heap.size + 1 + 1 + 1, 0, none⟩), .pointer (some ⟨w.heap.size + 1 + 1 + 1 + 1, 0, none⟩), .pointer (some ⟨w.heap.size + 1 + 1 + 1 + 1 + 1, 0, none⟩), .slice ab 4 cb, undef, u13, undef, .pointer (some ⟨g, 0, none⟩), .agg #[.int .i64 a0, .int .i64 a1], .agg #[.int .i64 b0, .int .i64 b1], .agg #[.int .i64 c0, .int .i64 c1], .slice ab 4 cb, .agg #[.int .i64 a0, .int .i64 a1], .agg #[.int .i64 b0, .int .i64 b1], .agg #[.int .i64 c0, .int .i64 c1], .agg #[.int .i64 d0, .int .i64 d1], .agg #[.int .i64 e0, .int .i64 e1], .slice (some ⟨w2.heap.size, 0, none⟩) 5 5, .bool true, .bool false, .bool false, .slice ab 4 cb, .agg #[.int .i64 d0, .int .i64 d1], .agg #[.int .i64 e0, .int .i64 e1], .slice (some ⟨w3.heap.size, 0, none⟩) 2 2, .bool true, .bool false, .bool false, .agg #[.int .i64 d0, .int .i64 d1], .agg #[.int .i64 e0, .int .i64 e1], .agg #[.int .i64 d0, .int .i64 d1, .int .i64 e0, .int .i64 e1], .int .i64 2, .bool false, u41, u42, u43, u44, u45, u46, u47, u48, u49, u50, u51, u52, u53, u54, u55, u56, u57, .slice ab 4 cb, .func (.func 75) #[] #[.pointer (some ⟨B, 0, none⟩)], .int .i64 k, .agg #[.int .i64 (pt (bdr (a0, a1) (b0, b1) (c0, c1)) k).1, .int .i64 (pt (bdr (a0, a1) (b0, b1) (c0, c1)) k).2, .int .i64 (pt (bdr (a0, a1) (b0, b1) (c0, c1)) (k + 1)).1, .int .i64 (pt (bdr (a0, a1) (b0, b1) (c0, c1)) (k + 1)).2], undef, undef, undef, undef, undef, undef, undef, undef], defers := [] } ∧ Has w [(g, [.int .i64 (pt (bdr (a0, a1) (b0, b1) (c0, c1)) k).1, .int .i64 (pt (bdr (a0, a1) (b0, b1) (c0, c1)) k).2, .int .i64 (pt (bdr (a0, a1) (b0, b1) (c0, c1)) (k + 1)).1, .int .i64 (pt (bdr (a0, a1) (b0, b1) (c0, c1)) (k + 1)).2]), (B, [.slice ab 4 cb]), (w.heap.size, [.int .i64 a0, .int .i64 a1]), (w.heap.size + 1, [.int .i64 b0, .int .i64 b1]), (w.heap.size + 2, [.int .i64 c0, .int .i64 c1]), (w.heap.size + 3, [.int .i64 d0, .int .i64 d1]), (w.heap.size + 4, [.int .i64 e0, .int .i64 e1]), (w.heap.size + 5, [.bool false])] W ∧ RowP W (.slice ab 4 cb) (bdr (a0, a1) (b0, b1) (c0, c1)) ∧ Hid (anyTo (tbK (a0, a1) (b0, b1) (c0, c1) (d0, d1) (e0, e1)) k = false))
            (fun k A W h g => ⟨h.1.later g, h.2.1.later g, h.2.2⟩) (fun c k A W h g => ⟨h.1, h.2.1.later g, h.2.2⟩) (fun k A h => ⟨h.1.fact (.head _) (i := 0) rfl, h.2.1⟩)
            (fun k A l o o' h hl ho hc => ⟨h.1.putObj (by omega) ho hc, h.2.1.putObj ho hc, h.2.2⟩) (fun c k A l o o' h hl ho hc => ⟨h.1, h.2.1.putObj (by omega) ho hc, h.2.2⟩)
            (fun k a' A l o o' h hl ho hc => by obtain ⟨g, e, hh, hx, hy⟩ := h; exact ⟨g, e, hh.putObj (by omega) ho hc, hx.putObj ho hc, hy⟩) ⟨X6, hb6, Lib.hid rfl⟩ ?assign ?body ?done ?stop
          case assign =>
            rintro _ k A T hk ⟨hI, hI2, hX⟩ hT
            generalize (pt (bdr (a0, a1) (b0, b1) (c0, c1)) k).1 = x0 at *
            generalize (pt (bdr (a0, a1) (b0, b1) (c0, c1)) k).2 = x1 at *
            generalize (pt (bdr (a0, a1) (b0, b1) (c0, c1)) (k + 1)).1 = x2 at *
            generalize (pt (bdr (a0, a1) (b0, b1) (c0, c1)) (k + 1)).2 = x3 at *
            gi_wp2_with fail
            have E := (HK.start (B := w8.heap.size) hI).push [.int .i64 x0, .int .i64 x1, .int .i64 x2, .int .i64 x3] 64
            exact hT _ _ E.k ⟨_, rfl, E.h, hI2.later ((Below.refl _ A).alloc (Nat.le_refl _) _), hX⟩
          case done =>
            rintro D A hD ⟨hI, hI2, hX⟩ hK
            have hr : r = false := HF.out.symm.trans hX.out
            subst hr
            have HRR := Lib.hid (show touchP (a0, a1) (b0, b1) (c0, c1) (d0, d1) (e0, e1) = false by rw [HR.out, HPREV.out, HPRE2.out]; rfl)
            have k0 := hI.tail.tail.tail.tail.tail.tail.fact (.head _) (i := 0) rfl
            have f0 := hI.tail.tail.tail.tail.tail.tail.free (.head _) (i := 0) rfl
            gi_wp2_with fail
            go_wp2_with fail
            have X2 := hI.tail.tail.tail.tail.tail.tail.set 0 (by simp) (.bool false)
            have hK2 := (keeps_set (B := 0) A ⟨w.heap.size + 5, 0, none⟩ (.bool false)).same D _ (Nat.zero_le _) hK rfl
            change Has w _ (A.setCell ⟨w.heap.size + 1 + 1 + 1 + 1 + 1, 0, none⟩ (.bool false)) at X2
            change (A.setCell ⟨w.heap.size + 1 + 1 + 1 + 1 + 1, 0, none⟩ (.bool false)).heap[D]? = _ at hK2
            generalize A.setCell ⟨w.heap.size + 1 + 1 + 1 + 1 + 1, 0, none⟩ (.bool false) = A2 at *
            refine ⟨by simp, .inl ⟨_, _, rfl, run_takeDeferred hK2, ?_⟩⟩
            have X3 := X2.putObj (ob' := .deferred none) (by omega) hK2 rfl
            have d0 : (A2.putObj D (.deferred none)).cell? ⟨w.heap.size + 1 + 1 + 1 + 1 + 1, 0, none⟩ = some (.bool false) := X3.fact (.head _) (i := 0) rfl
            exact ⟨.bool false, by simp [results, Try.results30, go_sem, d0], by rw [HRR.out], X3.low⟩
          case stop =>
            rintro D c k A hD hk ⟨rfl, hI, hX⟩ hK
            have hr : true = r := (anyTo_yes hX.out hk).trans HF.out
            subst hr
            have HRR := Lib.hid (show touchP (a0, a1) (b0, b1) (c0, c1) (d0, d1) (e0, e1) = true by rw [HR.out, HPREV.out, HPRE2.out]; rfl)
            gi_wp2_with fail
            refine ⟨by simp, .inl ⟨_, _, rfl, run_takeDeferred hK, ?_⟩⟩
            have X3 := hI.putObj (ob' := .deferred none) (by omega) hK rfl
            have d0 : (A.putObj D (.deferred none)).cell? ⟨w.heap.size + 1 + 1 + 1 + 1 + 1, 0, none⟩ = some (.bool true) := X3.fact (.head _) (i := 0) rfl
            exact ⟨.bool true, by simp [results, Try.results30, go_sem, d0], by rw [HRR.out], X3.low⟩
          case body =>
            rintro lo k a' A hl - ⟨gt, rfl, hI, hI2, hX⟩ hk
            obtain ⟨q, hq⟩ : ∃ q, tbK (a0, a1) (b0, b1) (c0, c1) (d0, d1) (e0, e1) k = q := ⟨_, rfl⟩
            have hm : mbP (pt (bdr (a0, a1) (b0, b1) (c0, c1)) k).1 (pt (bdr (a0, a1) (b0, b1) (c0, c1)) k).2 (pt (bdr (a0, a1) (b0, b1) (c0, c1)) (k + 1)).1 (pt (bdr (a0, a1) (b0, b1) (c0, c1)) (k + 1)).2 d0 d1 e0 e1 [(a0, a1), (c0, c1)] = q := hq
            generalize (pt (bdr (a0, a1) (b0, b1) (c0, c1)) k).1 = x0 at *
            generalize (pt (bdr (a0, a1) (b0, b1) (c0, c1)) k).2 = x1 at *
            generalize (pt (bdr (a0, a1) (b0, b1) (c0, c1)) (k + 1)).1 = x2 at *
            generalize (pt (bdr (a0, a1) (b0, b1) (c0, c1)) (k + 1)).2 = x3 at *
            have HM := Lib.hid hm
            have HQ := Lib.hid hq
            clear hm hq
            obtain ⟨m0, m1, m2, m3⟩ := hI.one4
            obtain ⟨k0, k1⟩ := hI.tail.tail.pt
            obtain ⟨k2, k3⟩ := hI.tail.tail.tail.pt
            obtain ⟨k4, k5⟩ := hI.tail.tail.tail.tail.pt
            obtain ⟨k6, k7⟩ := hI.tail.tail.tail.tail.tail.pt
            obtain ⟨k8, k9⟩ := hI.tail.tail.tail.tail.tail.tail.pt
            obtain ⟨Cx, Rx⟩ := one_row hI rfl [(a0, a1), (c0, c1)] (by simp)
            have gx : Grows A (A.alloc (.cells (flat [(a0, a1), (c0, c1)]).toArray 36)) := (Below.refl _ A).alloc (Nat.le_refl _) _
            have hkx : HK w 0 A _ _ := ⟨Cx, keeps_grows gx⟩
            have hI3 := hI2.later gx
            gi_wp2_with fail
            refine ⟨trivial, (round_call (HK.call2 hkx (beside_is _ _ _ _ _ _ _ _ _ _ _ Rx _ HM.out))).mono ?_⟩
            rintro e A3 ⟨rfl, X1, gB⟩
            have RR := hI3.later gB
            clear k0 k1 k2 k3 k4 k5 k6 k7 k8 k9 m0 m1 m2 m3 hkx Cx Rx hI3
            cases q
            · gi_wp2_with fail
              exact ⟨keeps_mono X1.k (Nat.zero_le _), X1.h.tail.tail, RR, Lib.hid (anyTo_no hX.out HQ.out)⟩
            · have k9 := X1.h.tail.tail.tail.tail.tail.tail.tail.tail.fact (.head _) (i := 0) rfl
              have f9 := X1.h.tail.tail.tail.tail.tail.tail.tail.tail.free (.head _) (i := 0) rfl
              gi_wp2_with fail
              have X3 := X1.tail.tail.tail.tail.tail.tail.tail.tail.set 0 (by simp) (.bool true)
              exact ⟨keeps_mono X3.k (Nat.zero_le _), rfl, X3.h, HQ⟩

end Go.Proofs.Ytkejilomempogaa
