/- line.Length. The reference: Length. Lists: whether two are equal. Lists of points that the call made itself: to append to them. -/
import Derived.Test.YtkejilomempogaaRWi
import Derived.Maps.AppendAt
import Derived.Laws.OwnMore
import Derived.WideShapes
namespace Go.Proofs.Ytkejilomempogaa
open Go.RowKit Go.Lib

/-- The length of a segment, rounded down; of the first k. -/
def lenD (a0 a1 b0 b1 : Int) : Int := wrap64 (wrap64 (wrap64 (b0 - a0) * wrap64 (b0 - a0)) + wrap64 (wrap64 (b1 - a1) * wrap64 (b1 - a1)))
def lenS (ps : List (Int × Int)) (k : Nat) : Int := rootOf (lenD (pt ps k).1 (pt ps k).2 (pt ps (k + 1)).1 (pt ps (k + 1)).2)
def lenTo (ps : List (Int × Int)) : Nat → Int
  | 0 => 0
  | k + 1 => wrap64 (lenTo ps k + lenS ps k)
def lengthP (ps : List (Int × Int)) : Int := lenTo ps (ps.length - 1)
theorem wrap_64 (x : Int) : IntKind.i64.wrap x = wrap64 x := IntWalk.i64_left x
theorem wrap_le (x : Int) : wrap64 x ≤ 9223372036854775807 := by unfold wrap64; omega

theorem sub_is (a b c d s t : Int) (h : wrap64 (a - c) = s) (k : wrap64 (b - d) = t) (w : World) :
    Calls Try.prog 40 #[.agg #[.int .i64 a, .int .i64 b], .agg #[.int .i64 c, .int .i64 d]] w fun e w' => e = .returned (.agg #[.int .i64 s, .int .i64 t]) ∧ Below w.heap.size w w' := by subst h k; exact sub_any a b c d w
theorem rsub_is (a b c d s t : Int) (h : wrap64 (a - c) = s) (k : wrap64 (b - d) = t) (w : World) :
    Calls Try.prog 43 #[.agg #[.int .i64 a, .int .i64 b], .agg #[.int .i64 c, .int .i64 d]] w fun e w' => e = .returned (.agg #[.int .i64 s, .int .i64 t]) ∧ Below w.heap.size w w' := by subst h k; exact rsub_any a b c d w
theorem dot_is (a b c d s : Int) (h : wrap64 (wrap64 (a * c) + wrap64 (b * d)) = s) (w : World) :
    Calls Try.prog 42 #[.agg #[.int .i64 a, .int .i64 b], .agg #[.int .i64 c, .int .i64 d]] w fun e w' => e = .returned (.int .i64 s) ∧ Below w.heap.size w w' := by subst h; exact dot_any a b c d w
theorem rdot_is (a b c d s : Int) (h : wrap64 (wrap64 (a * c) + wrap64 (b * d)) = s) (w : World) :
    Calls Try.prog 45 #[.agg #[.int .i64 a, .int .i64 b], .agg #[.int .i64 c, .int .i64 d]] w fun e w' => e = .returned (.int .i64 s) ∧ Below w.heap.size w w' := by subst h; exact rdot_any a b c d w
theorem sqrt_is (n s : Int) (h : rootOf n = s) (hn : n ≤ 9223372036854775807) (w : World) :
    Calls Try.prog 41 #[.int .i64 n] w fun e w' => e = .returned (.int .i64 s) ∧ Below w.heap.size w w' := by
  subst h; exact (sqrt_any n w hn).mono fun _ _ ⟨a, b⟩ => ⟨a, b ▸ Below.refl _ _⟩
theorem rsqrt_is (n s : Int) (h : rootOf n = s) (hn : n ≤ 9223372036854775807) (w : World) :
    Calls Try.prog 44 #[.int .i64 n] w fun e w' => e = .returned (.int .i64 s) ∧ Below w.heap.size w w' := by
  subst h; exact (rsqrt_any n w hn).mono fun _ _ ⟨a, b⟩ => ⟨a, b ▸ Below.refl _ _⟩
attribute [local go_sem] Oper.semAt_some
set_option linter.unusedSimpArgs false in
set_option maxRecDepth 100000 in
set_option maxHeartbeats 8000000 in
theorem llength_any (v : Value) (ps : List (Int × Int)) (w : World) (hv : RowP w v ps) :
    Calls Try.prog 16 #[v] w fun e w' => e = .returned (.int .i64 (lengthP ps)) ∧ Below w.heap.size w w' := by
  have HV := Lib.hid hv
  clear hv
  have C0 := has1 (w := w) [.int .i64 0] 3
  obtain ⟨r, hr⟩ : ∃ r, lengthP ps = r := ⟨_, rfl⟩
  rw [hr]
  unfold lengthP at hr
  have HF := Lib.hid hr
  clear hr
  refine (callsIn_wide (n := 5)).1 ?_
  refine callsIn_of_wp_marks Try.func16 rfl trivial ?_ rfl
  simp only [Try.ntmps16, List.size_toArray, List.length_cons, List.length_nil, Nat.reduceAdd, Nat.reduceSub, Array.replicate_succ, Array.replicate_zero, List.push_toArray, List.append_toArray, List.nil_append, List.cons_append]
  gi_wp2_with fail
  change Has w _ (w.alloc (.cells #[.int .i64 0] 3)) at C0
  generalize w.alloc (.cells #[.int .i64 0] 3) = w1 at *
  refine ⟨trivial, (callsIn_wide.2 (segs_has C0 (HV.out.later C0.low))).mono ?_⟩
  rintro e w4 ⟨B, rfl, C4⟩
  clear C0
  gi_wp2_with fail
  have hB : B < w4.heap.size := C4.lt0
  have hM : w.heap.size < w4.heap.size := C4.tail.lt0
  refine range_sq (K := ps.length - 1) (enc := fun k => #[.int .i64 k, .agg #[.int .i64 (pt ps k).1, .int .i64 (pt ps k).2, .int .i64 (pt ps (k + 1)).1, .int .i64 (pt ps (k + 1)).2]]) (Lv := fun W => W.cell? ⟨B, 0, none⟩ = some v ∧ RowP W v ps) (w0 := w) rfl (enters_of Try.func75 (by kernel_rfl) rfl) (seg_seq _ ps v B w) C4.low (fun _ => rfl)
    (fun k W => Has w [(B, [v]), (w.heap.size, [.int .i64 (lenTo ps k)])] W)
    (fun c k W => False)
    (fun k a' W => ∃ g, a' = { tmps := #[v, undef, .int .i64 0, .pointer (some ⟨w.heap.size, 0, none⟩), undef, .pointer (some ⟨g, 0, none⟩), undef, v, .func (.func 75) #[] #[.pointer (some ⟨B, 0, none⟩)], .int .i64 k, .agg #[.int .i64 (pt ps k).1, .int .i64 (pt ps k).2, .int .i64 (pt ps (k + 1)).1, .int .i64 (pt ps (k + 1)).2], undef, undef, undef, undef, undef, undef, undef, undef, undef, undef, undef, undef], defers := [] } ∧ Has w [(g, [.int .i64 (pt ps k).1, .int .i64 (pt ps k).2, .int .i64 (pt ps (k + 1)).1, .int .i64 (pt ps (k + 1)).2]), (B, [v]), (w.heap.size, [.int .i64 (lenTo ps k)])] W)
    (fun k A W h g => h.later g) (fun c k A W h g => h) (fun k A h => ⟨h.fact (.head _) (i := 0) rfl, HV.out.later h.low⟩)
    (fun k A l o o' h hl ho hc => h.putObj (by omega) ho hc) (fun c k A l o o' h hl ho hc => h)
    (fun k a' A l o o' h hl ho hc => by obtain ⟨g, e, hh⟩ := h; exact ⟨g, e, hh.putObj (by omega) ho hc⟩) C4 ?assign ?body ?done ?stop
  case assign =>
    rintro l k A T hk hI hT
    generalize (pt ps k).1 = x0 at *
    generalize (pt ps k).2 = x1 at *
    generalize (pt ps (k + 1)).1 = x2 at *
    generalize (pt ps (k + 1)).2 = x3 at *
    generalize lenTo ps k = SUM at *
    gi_wp2_with fail
    have E := (HK.start (B := w4.heap.size) hI).push [.int .i64 x0, .int .i64 x1, .int .i64 x2, .int .i64 x3] 64
    exact hT _ _ E.k ⟨_, rfl, E.h⟩
  case stop =>
    rintro D c k A hD hk h
    exact h.elim
  case done =>
    rintro D A hD hI hK
    rw [HF.out] at hI
    have k0 := hI.tail.fact (.head _) (i := 0) rfl
    gi_wp2_with fail
    refine ⟨by simp, .inl ⟨_, _, rfl, run_takeDeferred hK, ?_⟩⟩
    have X3 := hI.putObj (ob' := .deferred none) (by omega) hK rfl
    exact ⟨.int .i64 r, by simp [results, Try.results16, go_sem], rfl, X3.low⟩
  case body =>
    rintro l k a' A hl hr ⟨g, rfl, hI⟩ hk
    have hnext : lenTo ps (k + 1) = wrap64 (lenTo ps k + lenS ps k) := rfl
    rw [hnext]
    unfold lenS lenD
    clear hnext
    generalize (pt ps k).1 = x0 at *
    generalize (pt ps k).2 = x1 at *
    generalize (pt ps (k + 1)).1 = x2 at *
    generalize (pt ps (k + 1)).2 = x3 at *
    generalize lenTo ps k = SUM at *
    obtain ⟨dx, hdx⟩ : ∃ v, wrap64 (x2 - x0) = v := ⟨_, rfl⟩
    obtain ⟨dy, hdy⟩ : ∃ v, wrap64 (x3 - x1) = v := ⟨_, rfl⟩
    rw [hdx, hdy]
    obtain ⟨dd, hdd⟩ : ∃ v, wrap64 (wrap64 (dx * dx) + wrap64 (dy * dy)) = v := ⟨_, rfl⟩
    have bd : dd ≤ 9223372036854775807 := hdd ▸ wrap_le _
    rw [hdd]
    obtain ⟨S2, hS2⟩ : ∃ v, wrap64 (SUM + rootOf dd) = v := ⟨_, rfl⟩
    rw [hS2]
    obtain ⟨rt, hrt⟩ : ∃ v, rootOf dd = v := ⟨_, rfl⟩
    rw [hrt] at hS2
    have Hdx := Lib.hid hdx
    have Hdy := Lib.hid hdy
    have Hdd := Lib.hid hdd
    have Hrt := Lib.hid hrt
    have wS : IntKind.i64.wrap (SUM + rt) = S2 := (wrap_64 _).trans hS2
    clear hdx hdy hdd hrt hS2
    obtain ⟨k0, k1, k2, k3⟩ := hI.one4
    gi_wp2_with fail
    refine ⟨trivial, (round_call (HK.call (HK.start (B := w4.heap.size) hI) (sub_is _ _ _ _ _ _ Hdx.out Hdy.out _))).mono ?_⟩
    rintro e A1 ⟨rfl, E⟩
    clear k0 k1 k2 k3
    have E2 := E.push [.int .i64 dx, .int .i64 dy] 36
    change HK w _ _ _ (A1.alloc (.cells #[.int .i64 dx, .int .i64 dy] 36)) at E2
    gi_wp2_with fail
    generalize A1.alloc (.cells #[.int .i64 dx, .int .i64 dy] 36) = A2 at *
    generalize A1.heap.size = g2 at *
    have X0 := E2.drew
    clear E E2 hI
    refine calm_Z 6 (fun W => W.cell? ⟨g2, 0, none⟩ = some (.int .i64 dx) ∧ W.cell? ⟨g2, 1, none⟩ = some (.int .i64 dy) ∧ W.cell? ⟨w.heap.size, 0, none⟩ = some (.int .i64 SUM)) (by kernel_rfl) (defers_none _ (by kernel_rfl)) ?_
    have hHeld : (fun W => W.cell? ⟨g2, 0, none⟩ = some (.int .i64 dx) ∧ W.cell? ⟨g2, 1, none⟩ = some (.int .i64 dy) ∧ W.cell? ⟨w.heap.size, 0, none⟩ = some (.int .i64 SUM)) A2.drew := ⟨X0.h.fact (.head _) (i := 0) rfl, X0.h.fact (.head _) (i := 1) rfl, X0.h.tail.tail.tail.fact (.head _) (i := 0) rfl⟩
    generalize A2.drew = A3 at *
    try dsimp only at hHeld
    refine wpAnyZ_take (i := 0) (oi := ⟨some 16, Op.load 3 (Operand.tmp 3), 3, _, _, none⟩) (oz := ⟨none, Op.store 3 (Operand.tmp 3) (Operand.tmp 21), 0, _, _, none⟩) (v := .int .i64 SUM) rfl rfl (by kernel_rfl) (fun _ _ _ h => h) (by rfl) (by assumption) (fun wS hSw => ?_) ?_
    · (try dsimp only at hSw); go_simp
    simp only [Act.put, List.setIfInBounds_toArray, List.set_cons_zero, List.set_cons_succ]
    refine wpAnyZ_take (i := 1) (oi := ⟨some 17, Op.load 36 (Operand.tmp 6), 36, _, _, none⟩) (oz := ⟨none, Op.store 3 (Operand.tmp 3) (Operand.tmp 21), 0, _, _, none⟩) (v := .agg #[.int .i64 dx, .int .i64 dy]) rfl rfl (by kernel_rfl) (fun _ _ _ h => h) (by rfl) (by assumption) (fun wS hSw => ?_) ?_
    · (try dsimp only at hSw); go_simp
    simp only [Act.put, List.setIfInBounds_toArray, List.set_cons_zero, List.set_cons_succ]
    refine wpAnyZ_take (i := 2) (oi := ⟨some 18, Op.load 36 (Operand.tmp 6), 36, _, _, none⟩) (oz := ⟨none, Op.store 3 (Operand.tmp 3) (Operand.tmp 21), 0, _, _, none⟩) (v := .agg #[.int .i64 dx, .int .i64 dy]) rfl rfl (by kernel_rfl) (fun _ _ _ h => h) (by rfl) (by assumption) (fun wS hSw => ?_) ?_
    · (try dsimp only at hSw); go_simp
    simp only [Act.put, List.setIfInBounds_toArray, List.set_cons_zero, List.set_cons_succ]
    refine wpAnyZ_listed #[true, true, true, false, false, false, false] (by kernel_rfl) ?_
    refine wpAnyZ_one (i := 3) (o := ⟨some 19, Op.call { callee := Callee.value (Operand.func 42), args := #[Operand.tmp 17, Operand.tmp 18], argTypes := #[36, 36] }, 3, _, _, none⟩) (by kernel_rfl) rfl (fun K hK => ?_)
    go_simp
    go_at_call 42
    refine (HK.call X0 (dot_is _ _ _ _ _ Hdd.out _)).mono ?_
    rintro e A4 ⟨rfl, X1⟩
    go_wp2_with fail
    try clear hHeld
    refine hK.out _ _ (⟨X1.h.fact (.head _) (i := 0) rfl, X1.h.fact (.head _) (i := 1) rfl, X1.h.tail.tail.tail.fact (.head _) (i := 0) rfl⟩) (fun hHeld => ?_)
    clear hK K
    try simp only [List.setIfInBounds_toArray, List.set_cons_zero, List.set_cons_succ]
    refine wpAnyZ_listed #[true, true, true, true, false, false, false] (by kernel_rfl) ?_
    refine wpAnyZ_one (i := 4) (o := ⟨some 20, Op.call { callee := Callee.value (Operand.func 41), args := #[Operand.tmp 19], argTypes := #[3] }, 3, _, _, none⟩) (by kernel_rfl) rfl (fun K hK => ?_)
    go_simp
    go_at_call 41
    refine (HK.call X1 (sqrt_is _ _ Hrt.out bd _)).mono ?_
    rintro e A5 ⟨rfl, X2⟩
    go_wp2_with fail
    try clear hHeld
    refine hK.out _ _ (⟨X2.h.fact (.head _) (i := 0) rfl, X2.h.fact (.head _) (i := 1) rfl, X2.h.tail.tail.tail.fact (.head _) (i := 0) rfl⟩) (fun hHeld => ?_)
    clear hK K
    try simp only [List.setIfInBounds_toArray, List.set_cons_zero, List.set_cons_succ]
    refine wpAnyZ_listed #[true, true, true, true, true, false, false] (by kernel_rfl) ?_
    refine wpAnyZ_take (i := 5) (oi := ⟨some 21, Op.binOp BinOp.add 3 (Operand.tmp 16) (Operand.tmp 20) 3, 3, _, _, none⟩) (oz := ⟨none, Op.store 3 (Operand.tmp 3) (Operand.tmp 21), 0, _, _, none⟩) (v := .int .i64 S2) rfl rfl (by kernel_rfl) (fun _ _ _ h => h) (by rfl) (by assumption) (fun wS hSw => ?_) ?_
    · (try dsimp only at hSw); go_simp
    simp only [Act.put, List.setIfInBounds_toArray, List.set_cons_zero, List.set_cons_succ]
    refine wpAnyZ_listed #[true, true, true, true, true, true, false] (by kernel_rfl) ?_
    refine wpAnyZ_step (o := ⟨none, Op.store 3 (Operand.tmp 3) (Operand.tmp 21), 0, _, _, none⟩) (by kernel_rfl) (by decide) rfl (fun K hK => ?_)
    have k0 := X2.h.tail.tail.tail.fact (.head _) (i := 0) rfl
    have f0 := X2.h.tail.tail.tail.free (.head _) (i := 0) rfl
    go_simp
    have X3 := (HK.perm X2.tail.tail (.swap _ _ _)).set 0 (by simp) (.int .i64 S2)
    generalize A5.setCell ⟨w.heap.size, 0, none⟩ (.int .i64 S2) = A6 at *
    clear k0 f0
    try clear hHeld
    refine hK.out _ _ ?_
    clear hK K
    try simp only [List.setIfInBounds_toArray, List.set_cons_zero, List.set_cons_succ]
    refine wpAnyH_listed #[true, true, true, true, true, true, true] (by kernel_rfl) ?_
    have hHeld := True.intro
    refine wpAnyH_done (by kernel_rfl) ?_ _
    exact ⟨X3.k, X3.h.swap⟩

end Go.Proofs.Ytkejilomempogaa

namespace Go.Proofs.Ytkejilomempogaa
open Go.RowKit Go.Lib

set_option linter.unusedSimpArgs false in
set_option maxRecDepth 100000 in
set_option maxHeartbeats 8000000 in
theorem rlength_any (v : Value) (ps : List (Int × Int)) (w : World) (hv : RowP w v ps) :
    Calls Try.prog 17 #[v] w fun e w' => e = .returned (.int .i64 (lengthP ps)) ∧ Below w.heap.size w w' := by
  have hv0 := hv
  obtain ⟨a, cap, rfl, hc1, hc2, -⟩ := hv0
  obtain ⟨r, hr⟩ : ∃ r, lengthP ps = r := ⟨_, rfl⟩
  rw [hr]
  unfold lengthP at hr
  obtain ⟨m, hm⟩ : ∃ m, ps.length = m := ⟨_, rfl⟩
  rw [hm] at hc1 hv hr ⊢
  have HM := Lib.hid hm
  have HV := Lib.hid hv
  have HF := Lib.hid hr
  clear hr hm hv
  go_enter Try.func17, Try.ntmps17
  go_wp2_with fail
  go_loopw [4, 3] (fun i s wr => ∃ k : Nat, k ≤ m ∧ (k = 0 ∨ k + 1 ≤ m) ∧ i = .int .i64 k ∧ s = .int .i64 (lenTo ps k) ∧ Has w [] wr) (fun i _ _ => m - (RowKit.intOf i).toNat)
  case atStart => exact ⟨0, Nat.zero_le _, .inl rfl, rfl, rfl, Has.nil (Below.refl _ _)⟩
  case round =>
    obtain ⟨k, hk, hk2, rfl, rfl, hI⟩ := hrel
    have ks : IntKind.i64.wrap ((k : Int) + 1) = ((k + 1 : Nat) : Int) := by rw [IntWalk.i64_in _ (by omega)]; rfl
    by_cases hlt : k + 1 < m
    · have hR := HV.out.later hI.low
      obtain ⟨b, o, rfl, -⟩ := hR.spot (by rw [HM.out]; omega)
      have e0 : ps[k]? = some ((pt ps k).1, (pt ps k).2) := at_pt (by rw [HM.out]; omega)
      have e1 : ps[k + 1]? = some ((pt ps (k + 1)).1, (pt ps (k + 1)).2) := at_pt (by rw [HM.out]; omega)
      obtain ⟨S2, hS2⟩ : ∃ v, lenTo ps (k + 1) = v := ⟨_, rfl⟩
      have HS2 := Lib.hid hS2
      change wrap64 (lenTo ps k + lenS ps k) = S2 at hS2
      unfold lenS lenD at hS2
      generalize (pt ps k).1 = x0 at *
      generalize (pt ps k).2 = x1 at *
      generalize (pt ps (k + 1)).1 = x2 at *
      generalize (pt ps (k + 1)).2 = x3 at *
      generalize lenTo ps k = SUM at *
      obtain ⟨dx, hdx⟩ : ∃ v, wrap64 (x2 - x0) = v := ⟨_, rfl⟩
      obtain ⟨dy, hdy⟩ : ∃ v, wrap64 (x3 - x1) = v := ⟨_, rfl⟩
      rw [hdx, hdy] at hS2
      obtain ⟨dd, hdd⟩ : ∃ v, wrap64 (wrap64 (dx * dx) + wrap64 (dy * dy)) = v := ⟨_, rfl⟩
      have bd : dd ≤ 9223372036854775807 := hdd ▸ wrap_le _
      rw [hdd] at hS2
      obtain ⟨rt, hrt⟩ : ∃ v, rootOf dd = v := ⟨_, rfl⟩
      rw [hrt] at hS2
      have wS : IntKind.i64.wrap (SUM + rt) = S2 := (wrap_64 _).trans hS2
      have Hdx := Lib.hid hdx
      have Hdy := Lib.hid hdy
      have Hdd := Lib.hid hdd
      have Hrt := Lib.hid hrt
      have HX0 := Lib.hid e0
      have HX1 := Lib.hid e1
      clear hdx hdy hdd hrt hS2 e0 e1 hR
      have b1 : (k : Int) < m := by omega
      have b3 : (k : Int) + 1 < m := by omega
      have b4 : (0 : Int) ≤ (k : Int) + 1 := by omega
      have b5 : ((k : Int) + 1).toNat = k + 1 := by omega
      have b6 : (0 : Int) ≤ k := by omega
      go_wp2_with fail
      have ms1 := Lib.hid (show ∀ w', Has w [] w' → (w'.cell? ⟨b, o + k * 2, none⟩ = some (.int .i64 x0) ∧ w'.cell? ⟨b, o + k * 2 + 1, none⟩ = some (.int .i64 x1) ∧ w'.cell? ⟨b, o + (k + 1) * 2, none⟩ = some (.int .i64 x2) ∧ w'.cell? ⟨b, o + (k + 1) * 2 + 1, none⟩ = some (.int .i64 x3)) ∧ Has w [] w' from fun w' h => by
        have hRb := HV.out.later h.low
        exact ⟨⟨(hRb.cells HX0.out).1, (hRb.cells HX0.out).2, (hRb.cells HX1.out).1, (hRb.cells HX1.out).2⟩, h⟩)
      have X0 := hI.drew
      refine wp_region_held_drew (S := (fun w' => (w'.cell? ⟨b, o + k * 2, none⟩ = some (.int .i64 x0) ∧ w'.cell? ⟨b, o + k * 2 + 1, none⟩ = some (.int .i64 x1) ∧ w'.cell? ⟨b, o + (k + 1) * 2, none⟩ = some (.int .i64 x2) ∧ w'.cell? ⟨b, o + (k + 1) * 2 + 1, none⟩ = some (.int .i64 x3)) ∧ Has w [] w')) (by kernel_rfl) (ms1.out _ hI.drew) (fun hHeld => ?_)
      refine wpAnyT_begin [0, 1, 2, 3, 4, 5, 6, 7, 8] (by kernel_rfl) (by kernel_rfl) ?_
      refine wpAnyT_take (oi := ⟨some 13, Op.move (Operand.tmp 0), 23, _, _, none⟩) (v := .slice (some ⟨b, o, none⟩) m cap) rfl (fun _ _ _ h => h) (by rfl) (by assumption) (fun wS hSw => ?_) ?_
      · (try dsimp only at hSw); go_simp
      simp only [Act.put, List.setIfInBounds_toArray, List.set_cons_zero, List.set_cons_succ]
      refine wpAnyT_take (oi := ⟨some 14, Op.move (Operand.tmp 4), 3, _, _, none⟩) (v := .int .i64 k) rfl (fun _ _ _ h => h) (by rfl) (by assumption) (fun wS hSw => ?_) ?_
      · (try dsimp only at hSw); go_simp
      simp only [Act.put, List.setIfInBounds_toArray, List.set_cons_zero, List.set_cons_succ]
      refine wpAnyT_take (oi := ⟨some 15, Op.binOp BinOp.add 3 (Operand.tmp 14) (Operand.const (Value.int IntKind.i64 1)) 3, 3, _, _, none⟩) (v := .int .i64 ((k : Int) + 1)) rfl (fun _ _ _ h => h) (by rfl) (by assumption) (fun wS hSw => ?_) ?_
      · (try dsimp only at hSw); go_simp
      simp only [Act.put, List.setIfInBounds_toArray, List.set_cons_zero, List.set_cons_succ]
      refine wpAnyT_take (oi := ⟨some 16, Op.indexAddr 23 (Operand.tmp 13) (Operand.tmp 15), 0, _, _, none⟩) (v := .pointer (some ⟨b, o + (k + 1) * 2, none⟩)) rfl (fun _ _ _ h => h) (by rfl) (by assumption) (fun wS hSw => ?_) ?_
      · (try dsimp only at hSw); go_simp
      simp only [Act.put, List.setIfInBounds_toArray, List.set_cons_zero, List.set_cons_succ]
      refine wpAnyT_take (oi := ⟨some 17, Op.load 36 (Operand.tmp 16), 36, _, _, none⟩) (v := .agg #[.int .i64 x2, .int .i64 x3]) rfl (fun _ _ _ h => h) (by rfl) (by assumption) (fun wS hSw => ?_) ?_
      · (try dsimp only at hSw); go_simp
      simp only [Act.put, List.setIfInBounds_toArray, List.set_cons_zero, List.set_cons_succ]
      refine wpAnyT_take (oi := ⟨some 18, Op.move (Operand.tmp 0), 23, _, _, none⟩) (v := .slice (some ⟨b, o, none⟩) m cap) rfl (fun _ _ _ h => h) (by rfl) (by assumption) (fun wS hSw => ?_) ?_
      · (try dsimp only at hSw); go_simp
      simp only [Act.put, List.setIfInBounds_toArray, List.set_cons_zero, List.set_cons_succ]
      refine wpAnyT_take (oi := ⟨some 19, Op.move (Operand.tmp 4), 3, _, _, none⟩) (v := .int .i64 k) rfl (fun _ _ _ h => h) (by rfl) (by assumption) (fun wS hSw => ?_) ?_
      · (try dsimp only at hSw); go_simp
      simp only [Act.put, List.setIfInBounds_toArray, List.set_cons_zero, List.set_cons_succ]
      refine wpAnyT_take (oi := ⟨some 20, Op.indexAddr 23 (Operand.tmp 18) (Operand.tmp 19), 0, _, _, none⟩) (v := .pointer (some ⟨b, o + k * 2, none⟩)) rfl (fun _ _ _ h => h) (by rfl) (by assumption) (fun wS hSw => ?_) ?_
      · (try dsimp only at hSw); go_simp
      simp only [Act.put, List.setIfInBounds_toArray, List.set_cons_zero, List.set_cons_succ]
      refine wpAnyT_take (oi := ⟨some 21, Op.load 36 (Operand.tmp 20), 36, _, _, none⟩) (v := .agg #[.int .i64 x0, .int .i64 x1]) rfl (fun _ _ _ h => h) (by rfl) (by assumption) (fun wS hSw => ?_) ?_
      · (try dsimp only at hSw); go_simp
      simp only [Act.put, List.setIfInBounds_toArray, List.set_cons_zero, List.set_cons_succ]
      refine wpAnyT_end ?_
      refine wpAnyH_listed #[true, true, true, true, true, true, true, true, true, false, false, false] (by kernel_rfl) ?_
      refine any_ind (X := Sta) (n := fun sx => (1 - sx.n) + (if sx.a.isSome then 0 else 1)) (l := fun sx => #[true, true, true, true, true, true, true, true, true, decide (1 ≤ sx.n), sx.a.isSome, false]) (u := fun sx t => (putc 22 (.agg #[.int .i64 dx, .int .i64 dy]) (decide (1 ≤ sx.n)) (putp 5 sx.a t))) (I := fun sx w' => sx.n ≤ 1 ∧ Has w (bl [.int .i64 0, .int .i64 0] sx.a []) w') (m := 1) ⟨none, none, none, 0⟩ (by kernel_rfl) (by kernel_rfl) (by kernel_rfl) ⟨Nat.zero_le _, hI.drew⟩ ?_ ?_
      · rintro k ih ⟨pa, pb, pc, c⟩ w2 hk ⟨hc, hH⟩
        clear hHeld
        obtain rfl | rfl : c = 0 ∨ c = 1 := by simp only at hc; omega
        · cases pa with
          | none =>
            simp only [Option.isSome, Bool.false_eq_true, if_false, if_true] at hk
            simp only [putc, putp, Act.put, decide_eq_true_eq, decide_true, decide_false, Nat.le_refl, Nat.reduceLeDiff, List.setIfInBounds_toArray, List.set_cons_zero, List.set_cons_succ]
            refine wpAnyH_listed #[true, true, true, true, true, true, true, true, true, false, false, false] (by kernel_rfl) ?_
            refine wpAnyH_ready (rs := [9, 10]) (by kernel_rfl) (by simp) ?_
            refine AllReadyH.cons (o := ⟨some 22, Op.call { callee := Callee.value (Operand.func 43), args := #[Operand.tmp 17, Operand.tmp 21], argTypes := #[36, 36] }, 36, _, _, none⟩) rfl (fun K hK => ?_) (?_)
            · go_simp
              go_at_call 43
              refine (Has.call hH (rsub_is _ _ _ _ _ _ Hdx.out Hdy.out _)).mono ?_
              rintro e W ⟨rfl, hC⟩
              go_wp2_with fail
              refine hK.out _ _ (ms1.out _ hC) (fun _ => ?_)
              exact wpAnyH_cast rfl (by kernel_rfl) (by kernel_rfl) (ih ⟨none, pc, pc, 1⟩ _ (by simp only [Option.isSome, Bool.false_eq_true, if_false, if_true]; omega) ⟨by simp, hC⟩)
            refine AllReadyH.cons (o := ⟨some 5, Op.alloc 36, 0, _, _, none⟩) rfl (fun K hK => ?_) (AllReadyH.nil)
            · go_simp
              have hC := (hH.push [.int .i64 0, .int .i64 0] 36)
              change Has w _ (w2.alloc (.cells #[.int .i64 0, .int .i64 0] 36)) at hC
              generalize w2.alloc (.cells #[.int .i64 0, .int .i64 0] 36) = W at *
              generalize w2.heap.size = P at *
              have hC' : Has w ([(P, [.int .i64 0, .int .i64 0])] ++ []) W := hC
              refine hK.out _ _ (ms1.out _ (hC.tail)) (fun _ => ?_)
              exact wpAnyH_cast rfl (by kernel_rfl) (by kernel_rfl) (ih ⟨some P, pc, pc, 0⟩ _ (by simp only [Option.isSome, Bool.false_eq_true, if_false, if_true]; omega) ⟨by simp, hC⟩)
          | some P =>
            simp only [Option.isSome, Bool.false_eq_true, if_false, if_true] at hk
            simp only [putc, putp, Act.put, decide_eq_true_eq, decide_true, decide_false, Nat.le_refl, Nat.reduceLeDiff, List.setIfInBounds_toArray, List.set_cons_zero, List.set_cons_succ]
            refine wpAnyH_listed #[true, true, true, true, true, true, true, true, true, false, true, false] (by kernel_rfl) ?_
            refine wpAnyH_ready (rs := [9]) (by kernel_rfl) (by simp) ?_
            refine AllReadyH.cons (o := ⟨some 22, Op.call { callee := Callee.value (Operand.func 43), args := #[Operand.tmp 17, Operand.tmp 21], argTypes := #[36, 36] }, 36, _, _, none⟩) rfl (fun K hK => ?_) (AllReadyH.nil)
            · go_simp
              go_at_call 43
              refine (Has.call hH (rsub_is _ _ _ _ _ _ Hdx.out Hdy.out _)).mono ?_
              rintro e W ⟨rfl, hC⟩
              go_wp2_with fail
              refine hK.out _ _ (ms1.out _ hC.tail) (fun _ => ?_)
              exact wpAnyH_cast rfl (by kernel_rfl) (by kernel_rfl) (ih ⟨some P, pc, pc, 1⟩ _ (by simp only [Option.isSome, Bool.false_eq_true, if_false, if_true]; omega) ⟨by simp, hC⟩)
        · cases pa with
          | none =>
            simp only [Option.isSome, Bool.false_eq_true, if_false, if_true] at hk
            simp only [putc, putp, Act.put, decide_eq_true_eq, decide_true, decide_false, Nat.le_refl, Nat.reduceLeDiff, List.setIfInBounds_toArray, List.set_cons_zero, List.set_cons_succ]
            refine wpAnyH_listed #[true, true, true, true, true, true, true, true, true, true, false, false] (by kernel_rfl) ?_
            refine wpAnyH_ready (rs := [10]) (by kernel_rfl) (by simp) ?_
            refine AllReadyH.cons (o := ⟨some 5, Op.alloc 36, 0, _, _, none⟩) rfl (fun K hK => ?_) (AllReadyH.nil)
            · go_simp
              have hC := (hH.push [.int .i64 0, .int .i64 0] 36)
              change Has w _ (w2.alloc (.cells #[.int .i64 0, .int .i64 0] 36)) at hC
              generalize w2.alloc (.cells #[.int .i64 0, .int .i64 0] 36) = W at *
              generalize w2.heap.size = P at *
              have hC' : Has w ([(P, [.int .i64 0, .int .i64 0])] ++ []) W := hC
              refine hK.out _ _ (ms1.out _ (hC.tail)) (fun _ => ?_)
              exact wpAnyH_cast rfl (by kernel_rfl) (by kernel_rfl) (ih ⟨some P, pc, pc, 1⟩ _ (by simp only [Option.isSome, Bool.false_eq_true, if_false, if_true]; omega) ⟨by simp, hC⟩)
          | some P =>
            exact absurd hk (by simp)
      rintro ⟨pa, pb, pc, c⟩ w2 hk ⟨hc, hH⟩
      obtain ⟨P, rfl, rfl⟩ : ∃ P, pa = some P ∧ c = 1 := by
        cases pa <;> simp only [Option.isSome, Bool.false_eq_true, if_false, if_true] at hk <;> simp only at hc <;> first | exact ⟨_, rfl, by omega⟩ | omega
      simp only [putc, putp, Act.put, decide_eq_true_eq, decide_true, decide_false, Nat.le_refl, Nat.reduceLeDiff, List.setIfInBounds_toArray, List.set_cons_zero, List.set_cons_succ]
      have XA := hH
      change Has w [(P, [.int .i64 0, .int .i64 0])] w2 at XA
      clear hH hk hc
      refine wpAnyH_listed #[true, true, true, true, true, true, true, true, true, true, true, false] (by kernel_rfl) ?_
      refine wpAnyH_ready (rs := [11]) (by kernel_rfl) (by simp) ?_
      refine AllReadyH.cons (o := ⟨none, Op.store 36 (Operand.tmp 5) (Operand.tmp 22), 0, _, _, none⟩) rfl (fun K hK => ?_) AllReadyH.nil
      have k0 := XA.fact (.head _) (i := 0) rfl
      have k1 := XA.fact (.head _) (i := 1) rfl
      have f0 := XA.free (.head _) (i := 0) rfl
      have f1 := XA.free (.head _) (i := 1) rfl
      go_simp
      have X1 : Has w [(P, [.int .i64 dx, .int .i64 dy])] (World.setCell (World.setCell w2 ⟨P, 0, none⟩ (.int .i64 dx)) ⟨P, 1, none⟩ (.int .i64 dy)) := (XA.set2 (.int .i64 dx) (.int .i64 dy))
      generalize (World.setCell (World.setCell w2 ⟨P, 0, none⟩ (.int .i64 dx)) ⟨P, 1, none⟩ (.int .i64 dy)) = w3 at *
      clear k0 f0 k1 f1 XA
      clear hHeld
      refine hK.out _ _ (ms1.out _ X1.tail) (fun hHeld => ?_)
      clear hK K
      try simp only [List.setIfInBounds_toArray, List.set_cons_zero, List.set_cons_succ]
      refine wpAnyH_listed #[true, true, true, true, true, true, true, true, true, true, true, true] (by kernel_rfl) ?_
      refine wpAnyH_done (by kernel_rfl) ?_ _
      try clear hHeld
      clear X0 ms1 hI
      obtain ⟨k0, k1⟩ := X1.pt
      go_wp2_with fail
      refine (Has.call X1 (rdot_is _ _ _ _ _ Hdd.out _)).mono ?_
      rintro e w5 ⟨rfl, X2⟩
      clear k0 k1
      go_wp2_with fail
      refine (Has.call X2 (rsqrt_is _ _ Hrt.out bd _)).mono ?_
      rintro e w6 ⟨rfl, X3⟩
      go_wp2_with fail
      go_roundw
      case rel => exact ⟨k + 1, by omega, .inr (by omega), by go_num, by rw [HS2.out], X3.tail⟩
      case measure => simp [RowKit.intOf]; omega
    · have hkm : k = m - 1 := by omega
      go_wp2_with fail
      go_ret
      exact ⟨ret_i (by rw [← HF.out, ← hkm]), hI.low⟩

end Go.Proofs.Ytkejilomempogaa

namespace Go.Proofs.Ytkejilomempogaa
open Go.RowKit Go.Lib

/-- Whether two lists are equal. -/
def sameP (l m : List (Int × Int)) : Bool := decide (l = m)
theorem sameP_len {l m : List (Int × Int)} (h : ¬ l.length = m.length) : sameP l m = false := by unfold sameP; exact decide_eq_false (fun e => h (by rw [e]))
theorem sameP_at {l m : List (Int × Int)} {k : Nat} {x y x' y' : Int} (h : l[k]? = some (x, y)) (h' : m[k]? = some (x', y')) (hd : decide ((x, y) = (x', y')) = false) : sameP l m = false := by
  unfold sameP
  refine decide_eq_false (fun e => ?_)
  subst e
  rw [h] at h'
  simp at h' hd
  exact hd h'.1 h'.2
theorem sameP_all {l m : List (Int × Int)} (hl : l.length = m.length) (h : l.take l.length = m.take l.length) : sameP l m = true := by
  unfold sameP
  rw [List.take_length, hl, List.take_length] at h
  exact decide_eq_true h
theorem take_same {l m : List (Int × Int)} {k : Nat} {x y x' y' : Int} (h : l[k]? = some (x, y)) (h' : m[k]? = some (x', y')) (hd : decide ((x, y) = (x', y')) = true) (ht : l.take k = m.take k) : l.take (k + 1) = m.take (k + 1) := by
  rw [List.take_add_one, List.take_add_one, h, h', ht, of_decide_eq_true hd]

set_option linter.unusedSimpArgs false in
set_option maxRecDepth 100000 in
set_option maxHeartbeats 4000000 in
theorem equal_any (u v : Value) (l m : List (Int × Int)) (w : World) (hu : RowP w u l) (hv : RowP w v m) :
    Calls Try.prog 48 #[u, v] w fun e w' => e = .returned (.bool (sameP l m)) ∧ Below w.heap.size w w' := by
  have hu0 := hu
  have hv0 := hv
  obtain ⟨a, cap, rfl, hc1, hc2, -⟩ := hu0
  obtain ⟨a', cap', rfl, hc3, hc4, -⟩ := hv0
  by_cases hl : l.length = m.length
  · obtain ⟨n, hn⟩ : ∃ n, l.length = n := ⟨_, rfl⟩
    have hm : m.length = n := by omega
    obtain ⟨r, hr⟩ : ∃ r, sameP l m = r := ⟨_, rfl⟩
    rw [hn] at hu hc1 ⊢
    rw [hm] at hv hc3 ⊢
    rw [hr]
    have HU := Lib.hid hu
    have HV := Lib.hid hv
    have HN := Lib.hid hn
    have HM := Lib.hid hm
    have HR := Lib.hid hr
    clear hu hv hn hm hr hl
    go_enter Try.func48, Try.ntmps48
    go_wp2_with fail
    go_loopw [13] (fun i wr => ∃ k : Nat, k ≤ n ∧ i = .int .i64 k ∧ Hid (l.take k = m.take k) ∧ Grows w wr) (fun i _ => n - (RowKit.intOf i).toNat)
    case atStart => exact ⟨0, Nat.zero_le _, rfl, Lib.hid rfl, Below.refl _ _⟩
    case round =>
      obtain ⟨k, hk, rfl, HA, hG⟩ := hrel
      by_cases hlt : k < n
      · have hR := HU.out.later hG
        have hS := HV.out.later hG
        obtain ⟨b, o, rfl, -⟩ := hR.spot (by rw [HN.out]; omega)
        obtain ⟨b', o', rfl, -⟩ := hS.spot (by rw [HM.out]; omega)
        obtain ⟨x, y, hp⟩ := some_pt (ps := l) (k := k) (by rw [HN.out]; exact hlt)
        obtain ⟨x', y', hq⟩ := some_pt (ps := m) (k := k) (by rw [HM.out]; exact hlt)
        obtain ⟨c0, c1⟩ := hR.cells hp
        obtain ⟨c2, c3⟩ := hS.cells hq
        have HP := Lib.hid hp
        have HQ := Lib.hid hq
        clear hp hq hR hS
        have b1 : (k : Int) < n := by omega
        have b6 : (0 : Int) ≤ k := by omega
        rcases eq3 x y x' y' with ⟨e1, e2, e3⟩ | ⟨e1, e2, e3⟩ | ⟨e1, e3⟩
        · have HE := Lib.hid e3
          clear e3
          go_wp2_with fail
          go_region
          go_wp2_with fail
          go_roundw
          case rel => exact ⟨k + 1, by omega, by go_num, Lib.hid (take_same HP.out HQ.out HE.out HA.out), hG.then ((Below.refl _ _).drew)⟩
          case measure => simp [RowKit.intOf]; omega
        all_goals
          have HE := Lib.hid e3
          clear e3
          go_wp2_with fail
          go_region
          go_wp2_with fail
          go_ret
          exact ⟨ret_b (by rw [← HR.out]; exact (sameP_at HP.out HQ.out HE.out).symm), hG.then ((Below.refl _ _).drew)⟩
      · obtain rfl : k = n := by omega
        go_wp2_with fail
        go_ret
        exact ⟨ret_b (by rw [← HR.out]; exact (sameP_all (by rw [HN.out, HM.out]) (by rw [HN.out]; exact HA.out)).symm), hG⟩
  · have HR := Lib.hid (sameP_len hl)
    have f1 : ((l.length : Int) == (m.length : Int)) = false := by rw [beq_eq_false_iff_ne]; omega
    have f2 : ((l.length : Int) != (m.length : Int)) = true := by rw [bne_iff_ne]; omega
    go_enter Try.func48, Try.ntmps48
    go_wp2_with fail
    go_ret
    exact ⟨ret_b HR.out.symm, by go_grown⟩

set_option linter.unusedSimpArgs false in
set_option maxRecDepth 100000 in
set_option maxHeartbeats 4000000 in
theorem rsame_any (u v : Value) (l m : List (Int × Int)) (w : World) (hu : RowP w u l) (hv : RowP w v m) :
    Calls Try.prog 18 #[u, v] w fun e w' => e = .returned (.bool (sameP l m)) ∧ Below w.heap.size w w' := by
  have hu0 := hu
  have hv0 := hv
  obtain ⟨a, cap, rfl, hc1, hc2, -⟩ := hu0
  obtain ⟨a', cap', rfl, hc3, hc4, -⟩ := hv0
  by_cases hl : l.length = m.length
  · obtain ⟨n, hn⟩ : ∃ n, l.length = n := ⟨_, rfl⟩
    have hm : m.length = n := by omega
    obtain ⟨r, hr⟩ : ∃ r, sameP l m = r := ⟨_, rfl⟩
    rw [hn] at hu hc1 ⊢
    rw [hm] at hv hc3 ⊢
    rw [hr]
    have HU := Lib.hid hu
    have HV := Lib.hid hv
    have HN := Lib.hid hn
    have HM := Lib.hid hm
    have HR := Lib.hid hr
    clear hu hv hn hm hr hl
    go_enter Try.func18, Try.ntmps18
    go_wp2_with fail
    go_loopw [5] (fun i wr => ∃ k : Nat, k ≤ n ∧ i = .int .i64 k ∧ Hid (l.take k = m.take k) ∧ Grows w wr) (fun i _ => n - (RowKit.intOf i).toNat)
    case atStart => exact ⟨0, Nat.zero_le _, rfl, Lib.hid rfl, Below.refl _ _⟩
    case round =>
      obtain ⟨k, hk, rfl, HA, hG⟩ := hrel
      by_cases hlt : k < n
      · have hR := HU.out.later hG
        have hS := HV.out.later hG
        obtain ⟨b, o, rfl, -⟩ := hR.spot (by rw [HN.out]; omega)
        obtain ⟨b', o', rfl, -⟩ := hS.spot (by rw [HM.out]; omega)
        obtain ⟨x, y, hp⟩ := some_pt (ps := l) (k := k) (by rw [HN.out]; exact hlt)
        obtain ⟨x', y', hq⟩ := some_pt (ps := m) (k := k) (by rw [HM.out]; exact hlt)
        obtain ⟨c0, c1⟩ := hR.cells hp
        obtain ⟨c2, c3⟩ := hS.cells hq
        have HP := Lib.hid hp
        have HQ := Lib.hid hq
        clear hp hq hR hS
        have b1 : (k : Int) < n := by omega
        have b6 : (0 : Int) ≤ k := by omega
        rcases eq3 x y x' y' with ⟨e1, e2, e3⟩ | ⟨e1, e2, e3⟩ | ⟨e1, e3⟩
        · have HE := Lib.hid e3
          clear e3
          go_wp2_with fail
          go_region
          go_wp2_with fail
          go_roundw
          case rel => exact ⟨k + 1, by omega, by go_num, Lib.hid (take_same HP.out HQ.out HE.out HA.out), hG.then ((Below.refl _ _).drew)⟩
          case measure => simp [RowKit.intOf]; omega
        all_goals
          have HE := Lib.hid e3
          clear e3
          go_wp2_with fail
          go_region
          go_wp2_with fail
          go_ret
          exact ⟨ret_b (by rw [← HR.out]; exact (sameP_at HP.out HQ.out HE.out).symm), hG.then ((Below.refl _ _).drew)⟩
      · obtain rfl : k = n := by omega
        go_wp2_with fail
        go_ret
        exact ⟨ret_b (by rw [← HR.out]; exact (sameP_all (by rw [HN.out, HM.out]) (by rw [HN.out]; exact HA.out)).symm), hG⟩
  · have HR := Lib.hid (sameP_len hl)
    have f1 : ((l.length : Int) == (m.length : Int)) = false := by rw [beq_eq_false_iff_ne]; omega
    have f2 : ((l.length : Int) != (m.length : Int)) = true := by rw [bne_iff_ne]; omega
    go_enter Try.func18, Try.ntmps18
    go_wp2_with fail
    go_ret
    exact ⟨ret_b HR.out.symm, by go_grown⟩

theorem lsame_any (u v : Value) (l m : List (Int × Int)) (w : World) (hu : RowP w u l) (hv : RowP w v m) :
    Calls Try.prog 21 #[u, v] w fun e w' => e = .returned (.bool (sameP l m)) ∧ Below w.heap.size w w' := by
  have HU := Lib.hid hu
  have HV := Lib.hid hv
  clear hu hv
  obtain ⟨r, hr⟩ : ∃ r, sameP l m = r := ⟨_, rfl⟩
  rw [hr]
  have HR := Lib.hid hr
  clear hr
  go_enter Try.func21, Try.ntmps21
  go_wp2_with fail
  refine (equal_any u v l m w HU.out HV.out).mono ?_
  rintro e w1 ⟨rfl, g1⟩
  rw [HR.out]
  go_wp2_with fail
  go_ret
  exact ⟨rfl, g1⟩

end Go.Proofs.Ytkejilomempogaa

namespace Go.Proofs.Ytkejilomempogaa
open Go.RowKit Go.Lib

theorem info36 : (Try.prog.info? 36).map (fun i => (i.zero, i.size, i.bytes)) = some (some (.agg #[.int .i64 0, .int .i64 0]), 2, 16) := by kernel_rfl
theorem flat_length (ps : List (Int × Int)) : (flat ps).length = ps.length * 2 := by
  induction ps with
  | nil => rfl
  | cons p t ih => simp only [flat, List.length_cons, ih]; omega
theorem flat_append (ps qs : List (Int × Int)) : flat (ps ++ qs) = flat ps ++ flat qs := by
  induction ps with
  | nil => rfl
  | cons p t ih => simp only [flat, List.cons_append, ih]
theorem flat_one (ps : List (Int × Int)) : ∀ u ∈ flat ps, u.oneCell' = true := by
  induction ps with
  | nil => intro u h; cases h
  | cons p t ih =>
    intro u h
    simp only [flat, List.mem_cons] at h
    rcases h with rfl | rfl | h
    · rfl
    · rfl
    · exact ih u h
/-- A list in memory that was made behind block b. -/
def Own (b : Nat) (w : World) (v : Value) (ps : List (Int × Int)) : Prop := w.ownsRow b 36 2 v ps.length (flat ps)
theorem Own.nil (b : Nat) (w : World) : Own b w (.slice none 0 0) [] := World.ownsRow_nil w b 36 2
theorem Own.later {b : Nat} {w w' : World} {v : Value} {ps : List (Int × Int)} (h : Own b w v ps) (g : Grows w w') : Own b w' v ps := by
  refine ⟨h.1, ?_⟩
  rcases h.2 with h2 | ⟨k, cap, cur, h1, h2, h3, h4⟩
  · exact .inl h2
  · exact .inr ⟨k, cap, cur, h1, h2, heap_grows g h3, h4⟩
theorem Own.row {b : Nat} {w : World} {v : Value} {ps : List (Int × Int)} (h : Own b w v ps) : RowP w v ps := by
  have hh := h
  rcases h.2 with ⟨rfl, h2⟩ | ⟨k, cap, cur, rfl, h2, h3, h4, h5, h6, h7⟩
  · have : ps = [] := List.eq_nil_of_length_eq_zero h2
    subst this
    exact ⟨none, 0, rfl, by simp, by simp, .inl rfl⟩
  · refine ⟨some ⟨k, 0, none⟩, cap, rfl, h4, by unfold maxLen at h5; omega, .inr ⟨k, 0, rfl, fun i p hp => ?_⟩⟩
    have hc := World.ownsRow.cells hh (g := k) rfl
    have c0 := hc _ _ (flat_at hp).1
    have c1 := hc _ _ (flat_at hp).2
    rw [Go.WideShapes.add_plain] at c0 c1
    rw [Nat.add_assoc]
    exact ⟨c0, c1⟩
theorem RowP.small {w : World} {a : Option Addr} {n c : Nat} {ps : List (Int × Int)} (h : RowP w (.slice a n c) ps) : n = ps.length := h.len.1

set_option maxRecDepth 100000 in
theorem run_append_own {w : World} {b : Nat} {v vx : Value} {ps qs : List (Int × Int)} (ty : TypeId) (h : Own b w v ps) (hx : RowP w vx qs) (hn : ps.length + qs.length ≤ 100000) (hb : b ≤ w.heap.size) :
    ∃ v' w', (Builtin.append_ #[23, 23] ty #[v, vx]).run Try.prog w = .ok v' w' ∧ Own b w' v' (ps ++ qs) ∧ w.grownBy w' v.ownBlock := by
  obtain ⟨i0, hi, hz0, hz1, hz2⟩ := info_parts info36
  obtain ⟨a, cap, rfl, h1, h2, h3⟩ := hx
  unfold Own
  rw [List.length_append, flat_append]
  rcases a with _ | ad
  · have h0 : qs = [] := by
      rcases h3 with h3 | ⟨b, o, h3, _⟩
      · exact h3
      · cases h3
    subst h0
    refine ⟨v, w, ?_, by simpa [flat] using (show w.ownsRow b 36 2 v ps.length (flat ps) from h), World.grownBy.refl w _⟩
    have hu := run_underlying (P := Try.prog) Try.underlying23
    rcases h.2 with ⟨rfl, h2⟩ | ⟨g, cap, cur, rfl, -, -, hle, -⟩
    · simp [Builtin.append_, hu, sizeOf, typeInfo, hi, Builtin.lenOf, Builtin.firstCells]
    · simp [Builtin.append_, hu, sizeOf, typeInfo, hi, Builtin.lenOf, Builtin.firstCells, hle, storeCells]
  · have hcells : ∀ j u, (flat qs)[j]? = some u → w.cell? (ad.add j) = some u := by
      intro j u hu
      rcases h3 with h3 | ⟨b, o, h3, h4⟩
      · rw [h3] at hu; simp [flat] at hu
      · obtain rfl := Option.some.inj h3
        have ee := Go.WideShapes.add_plain b o j
        rw [ee]
        have hj : j < qs.length * 2 := by rw [← flat_length]; exact (List.getElem?_eq_some_iff.1 hu).1
        have hp := at_pt (ps := qs) (k := j / 2) (by omega)
        obtain ⟨e0, e1⟩ := flat_at hp
        obtain ⟨c0, c1⟩ := h4 _ _ hp
        rcases Nat.mod_two_eq_zero_or_one j with hm | hm
        · rw [show j / 2 * 2 = j by omega] at e0 c0
          rw [e0] at hu
          rw [← hu]
          exact c0
        · rw [show j / 2 * 2 + 1 = j by omega] at e1
          rw [show o + j / 2 * 2 + 1 = o + j by omega] at c1
          rw [e1] at hu
          rw [← hu]
          exact c1
    obtain ⟨v', w', e1, e2, e3, -, -⟩ := run_append_own_at (P := Try.prog) w b 23 ty 36 i0 (.agg #[.int .i64 0, .int .i64 0]) 2 16 Try.underlying23 hi hz0 hz1 hz2 rfl (by decide) v ps.length (flat ps) h ad qs.length cap (flat qs) (by rw [flat_length]) hcells (flat_one qs)
      (by unfold maxLen; omega) (by omega) hb
    exact ⟨v', w', e1, e2, e3⟩
/-- What else was made stays as it is. -/
theorem Has.grown {w W W' : World} {bs : List (Nat × List Value)} {b : Nat} {v : Value} {ps : List (Int × Int)} (h : Has w bs W) (ho : Own b W v ps) (hb : ∀ p ∈ bs, p.1 < b) (hw : w.heap.size ≤ b) (hg : W.grownBy W' v.ownBlock) : Has w bs W' := by
  have hk : ∀ k, v.ownBlock = some k → b ≤ k := fun k e => (World.ownsRow.lt ho k e).1
  have hB : ∀ k, k < b → k < W.heap.size → W'.heap[k]? = W.heap[k]? := fun k h1 h2 => hg.block k h2 (fun e => by have := hk k e.symm; omega)
  refine ⟨fun p hp i u hu => ?_, fun p hp => Nat.lt_of_lt_of_le (h.lt p hp) hg.size, h.ge, h.nd, h.low.grown hg h.low.size (fun k e => by have := hk k e; omega)⟩
  obtain ⟨c1, c2⟩ := h.c p hp i u hu
  have hblock := hB p.1 (hb p hp) (h.lt p hp)
  constructor
  · rw [← c1]; unfold World.cell?; simp only [hblock]
  · rw [← c2]; unfold World.frozen?; simp only [hblock]
/-- At an operation of a plain region. -/
theorem wpList_append_pts {ops : Array Oper} {rest : List Oper} {o : Oper} {a : Act} {w : World} {Q : Exit → Act → World → Prop} (hgd : o.guard = none) (s x : Operand)
    (ho : o.op = .call { callee := .builtin .append, args := #[s, x], argTypes := #[23, 23] }) {b : Nat} {v vx : Value} {ps qs : List (Int × Int)} (hs : a.eval s = v) (h : Own b w v ps)
    (hx : a.eval x = vx) (hr : RowP w vx qs) (hn : ps.length + qs.length ≤ 100000) (hb : b ≤ w.heap.size)
    (hK : ∀ v' w', Own b w' v' (ps ++ qs) → w.grownBy w' v.ownBlock → wpList Try.prog ops Q rest (a.put o.dst v') w') : wpList Try.prog ops Q (o :: rest) a w := by
  refine wpList_plain hgd fun K hK' => ?_
  obtain ⟨v', w', e1, e2, e3⟩ := run_append_own o.type h hr hn hb
  unfold Oper.wp execOp
  simp only [ho, resolve, invoke, builtin, Sem.run_bind, Sem.run_pure, Result.andThen_ok, List.map_toArray, List.map_cons, List.map_nil, hs, hx, e1]
  exact hK' _ _ (hK v' w' e2 e3)

end Go.Proofs.Ytkejilomempogaa
