/- ring.Area2. The reference: next and Area2. ring.Check. Check and Cross are the reference's. The reference: Check of a ring. -/
import Derived.Test.YtmldgjhecoeldaaSg
import Derived.Test.YtmldgjhecoeldaaAn
import Derived.Test.YtmldgjhecoeldaaRRv
import Derived.Test.YtmldgjhecoeldaaCh
import Derived.Test.YtmldgjhecoeldaaRCh
import Derived.Test.YtmldgjhecoeldaaGg
namespace Go.Proofs.Ytmldgjhecoeldaa
open Go.RowKit Go.Lib

/-- Twice the area, as it is computed. -/
def crW (a b c d : Int) : Int := wrap64 (wrap64 (a * d) - wrap64 (b * c))
def areaS (ps : List (Int × Int)) (k : Nat) : Int := crW (pt ps k).1 (pt ps k).2 (pt ps (nx ps.length k)).1 (pt ps (nx ps.length k)).2
def areaTo (ps : List (Int × Int)) : Nat → Int
  | 0 => 0
  | k + 1 => wrap64 (areaTo ps k + areaS ps k)
def areaP (ps : List (Int × Int)) : Int := areaTo ps ps.length
theorem cross_is (a b c d s : Int) (h : crW a b c d = s) (w : World) :
    Calls Try.prog 31 #[.agg #[.int .i64 a, .int .i64 b], .agg #[.int .i64 c, .int .i64 d]] w fun e w' => e = .returned (.int .i64 s) ∧ Below w.heap.size w w' := by subst h; exact cross_any a b c d w
theorem rsegs_has {w w1 : World} {bs : List (Nat × List Value)} {v : Value} {ps : List (Int × Int)} (h : Has w bs w1) (hv : RowP w1 v ps) :
    Calls Try.prog 30 #[v] w1 fun e w' => ∃ B, e = .returned (.func (.func 58) #[] #[.pointer (some ⟨B, 0, none⟩)]) ∧ Has w ((B, [v]) :: bs) w' := by
  obtain ⟨a, c, rfl, -, -, -⟩ := hv
  refine (rsegs_any a _ c w1).mono ?_
  rintro e w' ⟨rfl, rfl⟩
  exact ⟨_, rfl, h.push [_] 25⟩
attribute [local go_sem] Oper.semAt_some
set_option linter.unusedSimpArgs false in
set_option maxRecDepth 100000 in
set_option maxHeartbeats 8000000 in
theorem area_any (v : Value) (ps : List (Int × Int)) (w : World) (hv : RowP w v ps) :
    Calls Try.prog 16 #[v] w fun e w' => e = .returned (.int .i64 (areaP ps)) ∧ Below w.heap.size w w' := by
  have HV := Lib.hid hv
  clear hv
  have C0 := has1 (w := w) [.int .i64 0] 3
  obtain ⟨r, hr⟩ : ∃ r, areaP ps = r := ⟨_, rfl⟩
  rw [hr]
  unfold areaP at hr
  have HF := Lib.hid hr
  clear hr
  refine (callsIn_wide (n := 5)).1 ?_
  refine callsIn_of_wp_marks Try.func16 rfl trivial ?_ rfl
  simp only [Try.ntmps16, List.size_toArray, List.length_cons, List.length_nil, Nat.reduceAdd, Nat.reduceSub, Array.replicate_succ, Array.replicate_zero, List.push_toArray, List.append_toArray, List.nil_append, List.cons_append]
  gi_wp2_with fail
  change Has w _ (w.alloc (.cells #[.int .i64 0] 3)) at C0
  generalize w.alloc (.cells #[.int .i64 0] 3) = w1 at *
  refine ⟨trivial, (callsIn_wide.2 (rsegs_has C0 (HV.out.later C0.low))).mono ?_⟩
  rintro e w4 ⟨B, rfl, C4⟩
  clear C0
  gi_wp2_with fail
  have hB : B < w4.heap.size := C4.lt0
  have hM : w.heap.size < w4.heap.size := C4.tail.lt0
  refine range_sq (K := ps.length) (enc := fun k => #[.agg #[.int .i64 (pt ps k).1, .int .i64 (pt ps k).2], .agg #[.int .i64 (pt ps (nx ps.length k)).1, .int .i64 (pt ps (nx ps.length k)).2]]) (Lv := fun W => W.cell? ⟨B, 0, none⟩ = some v ∧ RowP W v ps) (w0 := w) rfl (enters_of Try.func58 (by kernel_rfl) rfl) (rseg_seq _ ps v B w) C4.low (fun _ => rfl)
    (fun k W => Has w [(B, [v]), (w.heap.size, [.int .i64 (areaTo ps k)])] W)
    (fun c k W => False)
    (fun k a' W => ∃ ga gb, a' = { tmps := #[v, undef, .int .i64 0, .pointer (some ⟨w.heap.size, 0, none⟩), .pointer (some ⟨ga, 0, none⟩), .pointer (some ⟨gb, 0, none⟩), v, .func (.func 58) #[] #[.pointer (some ⟨B, 0, none⟩)], .agg #[.int .i64 (pt ps k).1, .int .i64 (pt ps k).2], .agg #[.int .i64 (pt ps (nx ps.length k)).1, .int .i64 (pt ps (nx ps.length k)).2], undef, undef, undef, undef, undef, undef], defers := [] } ∧ Has w [(gb, [.int .i64 (pt ps (nx ps.length k)).1, .int .i64 (pt ps (nx ps.length k)).2]), (ga, [.int .i64 (pt ps k).1, .int .i64 (pt ps k).2]), (B, [v]), (w.heap.size, [.int .i64 (areaTo ps k)])] W)
    (fun k A W h g => h.later g) (fun c k A W h g => h) (fun k A h => ⟨h.fact (.head _) (i := 0) rfl, HV.out.later h.low⟩)
    (fun k A l o o' h hl ho hc => h.putObj (by omega) ho hc) (fun c k A l o o' h hl ho hc => h)
    (fun k a' A l o o' h hl ho hc => by obtain ⟨ga, gb, e, hh⟩ := h; exact ⟨ga, gb, e, hh.putObj (by omega) ho hc⟩) C4 ?assign ?body ?done ?stop
  case assign =>
    rintro l k A T hk hI hT
    generalize (pt ps k).1 = x0 at *
    generalize (pt ps k).2 = x1 at *
    generalize (pt ps (nx ps.length k)).1 = x2 at *
    generalize (pt ps (nx ps.length k)).2 = x3 at *
    generalize areaTo ps k = SUM at *
    gi_wp2_with fail
    have E := ((HK.start (B := w4.heap.size) hI).push [.int .i64 x0, .int .i64 x1] 24).push [.int .i64 x2, .int .i64 x3] 24
    have Eh := E.h
    rw [size_alloc] at Eh
    exact hT _ _ E.k ⟨_, _, rfl, Eh⟩
  case stop =>
    rintro D c k A hD hk h
    exact h.elim
  case done =>
    rintro D A hD hI hK
    rw [HF.out] at hI
    have k0 := hI.tail.fact (.head _) (i := 0) rfl
    gi_wp2_with fail
    refine ⟨by simp, .inl ⟨_, _, rfl, run_takeDeferred hK, ?_⟩⟩
    have X3 := hI.putObj (ob' := .deferred none) (by omega) hK rfl
    exact ⟨.int .i64 r, by simp [results, Try.results16, go_sem], rfl, X3.low⟩
  case body =>
    rintro l k a' A hl hr ⟨ga, gb, rfl, hI⟩ hk
    have hnext : areaTo ps (k + 1) = wrap64 (areaTo ps k + areaS ps k) := rfl
    rw [hnext]
    unfold areaS
    clear hnext
    generalize (pt ps k).1 = x0 at *
    generalize (pt ps k).2 = x1 at *
    generalize (pt ps (nx ps.length k)).1 = x2 at *
    generalize (pt ps (nx ps.length k)).2 = x3 at *
    generalize areaTo ps k = SUM at *
    obtain ⟨cc, hcc⟩ : ∃ v, crW x0 x1 x2 x3 = v := ⟨_, rfl⟩
    rw [hcc]
    obtain ⟨S2, hS2⟩ : ∃ v, wrap64 (SUM + cc) = v := ⟨_, rfl⟩
    rw [hS2]
    have Hcc := Lib.hid hcc
    have wS : IntKind.i64.wrap (SUM + cc) = S2 := (wrap_64 _).trans hS2
    clear hcc hS2
    gi_wp2_with fail
    have X0 := (HK.start (B := w4.heap.size) hI).drew
    clear hI
    refine calm_Z 5 (fun W => W.cell? ⟨ga, 0, none⟩ = some (.int .i64 x0) ∧ W.cell? ⟨ga, 1, none⟩ = some (.int .i64 x1) ∧ W.cell? ⟨gb, 0, none⟩ = some (.int .i64 x2) ∧ W.cell? ⟨gb, 1, none⟩ = some (.int .i64 x3) ∧ W.cell? ⟨w.heap.size, 0, none⟩ = some (.int .i64 SUM)) (by kernel_rfl) (defers_none _ (by kernel_rfl)) ?_
    have hHeld : (fun W => W.cell? ⟨ga, 0, none⟩ = some (.int .i64 x0) ∧ W.cell? ⟨ga, 1, none⟩ = some (.int .i64 x1) ∧ W.cell? ⟨gb, 0, none⟩ = some (.int .i64 x2) ∧ W.cell? ⟨gb, 1, none⟩ = some (.int .i64 x3) ∧ W.cell? ⟨w.heap.size, 0, none⟩ = some (.int .i64 SUM)) A.drew := ⟨X0.h.tail.fact (.head _) (i := 0) rfl, X0.h.tail.fact (.head _) (i := 1) rfl, X0.h.fact (.head _) (i := 0) rfl, X0.h.fact (.head _) (i := 1) rfl, X0.h.tail.tail.tail.fact (.head _) (i := 0) rfl⟩
    generalize A.drew = A3 at *
    try dsimp only at hHeld
    refine wpAnyZ_take (i := 0) (oi := ⟨some 10, Op.load 3 (Operand.tmp 3), 3, _, _, none⟩) (oz := ⟨none, Op.store 3 (Operand.tmp 3) (Operand.tmp 14), 0, _, _, none⟩) (v := .int .i64 SUM) rfl rfl (by kernel_rfl) (fun _ _ _ h => h) (by rfl) (by assumption) (fun wS hSw => ?_) ?_
    · (try dsimp only at hSw); go_simp
    simp only [Act.put, List.setIfInBounds_toArray, List.set_cons_zero, List.set_cons_succ]
    refine wpAnyZ_take (i := 1) (oi := ⟨some 11, Op.load 24 (Operand.tmp 4), 24, _, _, none⟩) (oz := ⟨none, Op.store 3 (Operand.tmp 3) (Operand.tmp 14), 0, _, _, none⟩) (v := .agg #[.int .i64 x0, .int .i64 x1]) rfl rfl (by kernel_rfl) (fun _ _ _ h => h) (by rfl) (by assumption) (fun wS hSw => ?_) ?_
    · (try dsimp only at hSw); go_simp
    simp only [Act.put, List.setIfInBounds_toArray, List.set_cons_zero, List.set_cons_succ]
    refine wpAnyZ_take (i := 2) (oi := ⟨some 12, Op.load 24 (Operand.tmp 5), 24, _, _, none⟩) (oz := ⟨none, Op.store 3 (Operand.tmp 3) (Operand.tmp 14), 0, _, _, none⟩) (v := .agg #[.int .i64 x2, .int .i64 x3]) rfl rfl (by kernel_rfl) (fun _ _ _ h => h) (by rfl) (by assumption) (fun wS hSw => ?_) ?_
    · (try dsimp only at hSw); go_simp
    simp only [Act.put, List.setIfInBounds_toArray, List.set_cons_zero, List.set_cons_succ]
    refine wpAnyZ_listed #[true, true, true, false, false, false] (by kernel_rfl) ?_
    refine wpAnyZ_one (i := 3) (o := ⟨some 13, Op.call { callee := Callee.value (Operand.func 31), args := #[Operand.tmp 11, Operand.tmp 12], argTypes := #[24, 24] }, 3, _, _, none⟩) (by kernel_rfl) rfl (fun K hK => ?_)
    go_simp
    go_at_call 31
    refine (HK.call X0 (cross_is _ _ _ _ _ Hcc.out _)).mono ?_
    rintro e A4 ⟨rfl, X1⟩
    go_wp2_with fail
    try clear hHeld
    refine hK.out _ _ (⟨X1.h.tail.fact (.head _) (i := 0) rfl, X1.h.tail.fact (.head _) (i := 1) rfl, X1.h.fact (.head _) (i := 0) rfl, X1.h.fact (.head _) (i := 1) rfl, X1.h.tail.tail.tail.fact (.head _) (i := 0) rfl⟩) (fun hHeld => ?_)
    clear hK K
    try simp only [List.setIfInBounds_toArray, List.set_cons_zero, List.set_cons_succ]
    refine wpAnyZ_listed #[true, true, true, true, false, false] (by kernel_rfl) ?_
    refine wpAnyZ_take (i := 4) (oi := ⟨some 14, Op.binOp BinOp.add 3 (Operand.tmp 10) (Operand.tmp 13) 3, 3, _, _, none⟩) (oz := ⟨none, Op.store 3 (Operand.tmp 3) (Operand.tmp 14), 0, _, _, none⟩) (v := .int .i64 S2) rfl rfl (by kernel_rfl) (fun _ _ _ h => h) (by rfl) (by assumption) (fun wS hSw => ?_) ?_
    · (try dsimp only at hSw); go_simp
    simp only [Act.put, List.setIfInBounds_toArray, List.set_cons_zero, List.set_cons_succ]
    refine wpAnyZ_listed #[true, true, true, true, true, false] (by kernel_rfl) ?_
    refine wpAnyZ_step (o := ⟨none, Op.store 3 (Operand.tmp 3) (Operand.tmp 14), 0, _, _, none⟩) (by kernel_rfl) (by decide) rfl (fun K hK => ?_)
    have k0 := X1.h.tail.tail.tail.fact (.head _) (i := 0) rfl
    have f0 := X1.h.tail.tail.tail.free (.head _) (i := 0) rfl
    go_simp
    have X3 := (HK.perm X1.tail.tail (.swap _ _ _)).set 0 (by simp) (.int .i64 S2)
    generalize A4.setCell ⟨w.heap.size, 0, none⟩ (.int .i64 S2) = A6 at *
    clear k0 f0
    try clear hHeld
    refine hK.out _ _ ?_
    clear hK K
    try simp only [List.setIfInBounds_toArray, List.set_cons_zero, List.set_cons_succ]
    refine wpAnyH_listed #[true, true, true, true, true, true] (by kernel_rfl) ?_
    have hHeld := True.intro
    refine wpAnyH_done (by kernel_rfl) ?_ _
    exact ⟨X3.k, X3.h.swap⟩

end Go.Proofs.Ytmldgjhecoeldaa

namespace Go.Proofs.Ytmldgjhecoeldaa
open Go.RowKit Go.Lib

theorem rnext_any (v : Value) (ps : List (Int × Int)) (k : Nat) (w : World) (hv : RowP w v ps) (hk : k < ps.length) :
    Calls Try.prog 33 #[v, .int .i64 k] w fun e w' => e = .returned (.agg #[.int .i64 (pt ps (nx ps.length k)).1, .int .i64 (pt ps (nx ps.length k)).2]) ∧ Below w.heap.size w w' := by
  have hv0 := hv
  obtain ⟨a, cap, rfl, hc1, hc2, -⟩ := hv0
  have C0 := has1 (w := w) [.int .i64 0, .int .i64 0] 24
  change Has w _ (w.alloc (.cells #[.int .i64 0, .int .i64 0] 24)) at C0
  have hnk := nx_lt hk
  have hR := hv.later C0.low
  obtain ⟨b, o, rfl, hq⟩ := hR.spot (by omega)
  have e1 : ps[nx ps.length k]? = some ((pt ps (nx ps.length k)).1, (pt ps (nx ps.length k)).2) := at_pt hnk
  obtain ⟨c0, c1⟩ := hq _ _ e1
  simp only at c0 c1
  clear hv hR hq e1
  obtain ⟨hrem, q0, q1⟩ := nx_rem hk
  generalize (pt ps (nx ps.length k)).1 = x at *
  generalize (pt ps (nx ps.length k)).2 = y at *
  generalize nx ps.length k = j at *
  generalize ps.length = K at *
  have ksum : IntKind.i64.wrap ((k : Int) + 1) = (k : Int) + 1 := IntWalk.i64_in _ (by omega)
  have q2 : ((K : Int) == 0) = false := by rw [beq_eq_false_iff_ne]; omega
  have q3 : ¬ (K : Int) = 0 := by omega
  have b0 : (0 : Int) ≤ (k : Int) + 1 := by omega
  have hrem2 : ((k : Int) + 1) % K = j := by rw [← hrem, Int.tmod_eq_emod_of_nonneg b0]
  have f0 := C0.free (.head _) (i := 0) rfl
  have f1 := C0.free (.head _) (i := 1) rfl
  have k0 := C0.fact (.head _) (i := 0) rfl
  have k1 := C0.fact (.head _) (i := 1) rfl
  go_enter Try.func33, Try.ntmps33
  go_wp2_with fail
  go_returns
  exact ⟨rfl, by go_grown⟩
theorem rcross_is (a b c d s : Int) (h : crW a b c d = s) (w : World) :
    Calls Try.prog 32 #[.agg #[.int .i64 a, .int .i64 b], .agg #[.int .i64 c, .int .i64 d]] w fun e w' => e = .returned (.int .i64 s) ∧ Below w.heap.size w w' := by subst h; exact rcross_any a b c d w
set_option linter.unusedSimpArgs false in
set_option maxRecDepth 100000 in
set_option maxHeartbeats 8000000 in
theorem rarea_any (v : Value) (ps : List (Int × Int)) (w : World) (hv : RowP w v ps) :
    Calls Try.prog 17 #[v] w fun e w' => e = .returned (.int .i64 (areaP ps)) ∧ Below w.heap.size w w' := by
  have hv0 := hv
  obtain ⟨a, cap, rfl, hc1, hc2, -⟩ := hv0
  obtain ⟨r, hr⟩ : ∃ r, areaP ps = r := ⟨_, rfl⟩
  rw [hr]
  unfold areaP at hr
  obtain ⟨m, hm⟩ : ∃ m, ps.length = m := ⟨_, rfl⟩
  rw [hm] at hc1 hv hr ⊢
  have HM := Lib.hid hm
  have HV := Lib.hid hv
  have HF := Lib.hid hr
  clear hr hm hv
  go_enter Try.func17, Try.ntmps17
  go_wp2_with fail
  go_loopw [4, 3] (fun i s wr => ∃ k : Nat, k ≤ m ∧ i = .int .i64 k ∧ s = .int .i64 (areaTo ps k) ∧ Has w [] wr) (fun i _ _ => m - (RowKit.intOf i).toNat)
  case atStart => exact ⟨0, Nat.zero_le _, rfl, rfl, Has.nil (Below.refl _ _)⟩
  case round =>
    obtain ⟨k, hk, rfl, rfl, hI⟩ := hrel
    by_cases hlt : k < m
    · have ks : IntKind.i64.wrap ((k : Int) + 1) = ((k + 1 : Nat) : Int) := by rw [IntWalk.i64_in _ (by omega)]; rfl
      have hR := HV.out.later hI.low
      obtain ⟨b, o, rfl, -⟩ := hR.spot (by rw [HM.out]; omega)
      have e0 : ps[k]? = some ((pt ps k).1, (pt ps k).2) := at_pt (by rw [HM.out]; omega)
      obtain ⟨S2, hS2⟩ : ∃ v, areaTo ps (k + 1) = v := ⟨_, rfl⟩
      have HS2 := Lib.hid hS2
      change wrap64 (areaTo ps k + areaS ps k) = S2 at hS2
      unfold areaS at hS2
      have HN := Lib.hid (fun W (hW : RowP W (.slice (some ⟨b, o, none⟩) m cap) ps) => rnext_any _ ps k W hW (by rw [HM.out]; omega))
      generalize (pt ps k).1 = x0 at *
      generalize (pt ps k).2 = x1 at *
      generalize (pt ps (nx ps.length k)).1 = x2 at *
      generalize (pt ps (nx ps.length k)).2 = x3 at *
      generalize areaTo ps k = SUM at *
      obtain ⟨cc, hcc⟩ : ∃ v, crW x0 x1 x2 x3 = v := ⟨_, rfl⟩
      rw [hcc] at hS2
      have wS : IntKind.i64.wrap (SUM + cc) = S2 := (wrap_64 _).trans hS2
      have Hcc := Lib.hid hcc
      have HX0 := Lib.hid e0
      clear hcc hS2 e0 hR
      have b1 : (k : Int) < m := by omega
      have b6 : (0 : Int) ≤ k := by omega
      go_wp2_with fail
      have ms1 := Lib.hid (show ∀ w', Has w [] w' → (w'.cell? ⟨b, o + k * 2, none⟩ = some (.int .i64 x0) ∧ w'.cell? ⟨b, o + k * 2 + 1, none⟩ = some (.int .i64 x1)) ∧ Has w [] w' from fun w' h => by
        have hRb := HV.out.later h.low
        exact ⟨⟨(hRb.cells HX0.out).1, (hRb.cells HX0.out).2⟩, h⟩)
      have X0 := hI.drew
      refine wp_region_held_drew (S := (fun w' => (w'.cell? ⟨b, o + k * 2, none⟩ = some (.int .i64 x0) ∧ w'.cell? ⟨b, o + k * 2 + 1, none⟩ = some (.int .i64 x1)) ∧ Has w [] w')) (by kernel_rfl) (ms1.out _ X0) (fun hHeld => ?_)
      refine wpAnyT_begin [0, 1, 2, 3, 4, 5] (by kernel_rfl) (by kernel_rfl) ?_
      refine wpAnyT_take (oi := ⟨some 11, Op.move (Operand.tmp 3), 3, _, _, none⟩) (v := .int .i64 SUM) rfl (fun _ _ _ h => h) (by rfl) (by assumption) (fun wS hSw => ?_) ?_
      · (try dsimp only at hSw); go_simp
      simp only [Act.put, List.setIfInBounds_toArray, List.set_cons_zero, List.set_cons_succ]
      refine wpAnyT_take (oi := ⟨some 12, Op.move (Operand.tmp 0), 25, _, _, none⟩) (v := .slice (some ⟨b, o, none⟩) m cap) rfl (fun _ _ _ h => h) (by rfl) (by assumption) (fun wS hSw => ?_) ?_
      · (try dsimp only at hSw); go_simp
      simp only [Act.put, List.setIfInBounds_toArray, List.set_cons_zero, List.set_cons_succ]
      refine wpAnyT_take (oi := ⟨some 13, Op.move (Operand.tmp 4), 3, _, _, none⟩) (v := .int .i64 k) rfl (fun _ _ _ h => h) (by rfl) (by assumption) (fun wS hSw => ?_) ?_
      · (try dsimp only at hSw); go_simp
      simp only [Act.put, List.setIfInBounds_toArray, List.set_cons_zero, List.set_cons_succ]
      refine wpAnyT_take (oi := ⟨some 14, Op.indexAddr 25 (Operand.tmp 12) (Operand.tmp 13), 0, _, _, none⟩) (v := .pointer (some ⟨b, o + k * 2, none⟩)) rfl (fun _ _ _ h => h) (by rfl) (by assumption) (fun wS hSw => ?_) ?_
      · (try dsimp only at hSw); go_simp
      simp only [Act.put, List.setIfInBounds_toArray, List.set_cons_zero, List.set_cons_succ]
      refine wpAnyT_take (oi := ⟨some 15, Op.load 24 (Operand.tmp 14), 24, _, _, none⟩) (v := .agg #[.int .i64 x0, .int .i64 x1]) rfl (fun _ _ _ h => h) (by rfl) (by assumption) (fun wS hSw => ?_) ?_
      · (try dsimp only at hSw); go_simp
      simp only [Act.put, List.setIfInBounds_toArray, List.set_cons_zero, List.set_cons_succ]
      refine wpAnyT_take (oi := ⟨some 16, Op.move (Operand.tmp 0), 25, _, _, none⟩) (v := .slice (some ⟨b, o, none⟩) m cap) rfl (fun _ _ _ h => h) (by rfl) (by assumption) (fun wS hSw => ?_) ?_
      · (try dsimp only at hSw); go_simp
      simp only [Act.put, List.setIfInBounds_toArray, List.set_cons_zero, List.set_cons_succ]
      refine wpAnyT_end ?_
      refine wpAnyH_listed #[true, true, true, true, true, true, false, false, false, false, false] (by kernel_rfl) ?_
      refine wpAnyT_begin [6] (by kernel_rfl) (by kernel_rfl) ?_
      refine wpAnyT_take (oi := ⟨some 17, Op.move (Operand.tmp 4), 3, _, _, none⟩) (v := .int .i64 k) rfl (fun _ _ _ h => h) (by rfl) (by assumption) (fun wS hSw => ?_) ?_
      · (try dsimp only at hSw); go_simp
      simp only [Act.put, List.setIfInBounds_toArray, List.set_cons_zero, List.set_cons_succ]
      refine wpAnyT_end ?_
      refine wpAnyH_listed #[true, true, true, true, true, true, true, false, false, false, false] (by kernel_rfl) ?_
      refine wpAnyH_ready (rs := [7]) (by kernel_rfl) (by simp) ?_
      refine AllReadyH.cons (o := ⟨some 18, Op.call { callee := Callee.value (Operand.func 33), args := #[Operand.tmp 16, Operand.tmp 17], argTypes := #[25, 3] }, 24, _, _, none⟩) rfl (fun K hK => ?_) AllReadyH.nil
      go_simp
      go_at_call 33
      refine (Has.call X0 (HN.out _ (HV.out.later X0.low))).mono ?_
      rintro e W1 ⟨rfl, X1⟩
      go_wp2_with fail
      clear hHeld
      refine hK.out _ _ (ms1.out _ X1) (fun hHeld => ?_)
      clear hK K
      try simp only [List.setIfInBounds_toArray, List.set_cons_zero, List.set_cons_succ]
      refine wpAnyH_listed #[true, true, true, true, true, true, true, true, false, false, false] (by kernel_rfl) ?_
      refine wpAnyH_ready (rs := [8]) (by kernel_rfl) (by simp) ?_
      refine AllReadyH.cons (o := ⟨some 19, Op.call { callee := Callee.value (Operand.func 32), args := #[Operand.tmp 15, Operand.tmp 18], argTypes := #[24, 24] }, 3, _, _, none⟩) rfl (fun K hK => ?_) AllReadyH.nil
      go_simp
      go_at_call 32
      refine (Has.call X1 (rcross_is _ _ _ _ _ Hcc.out _)).mono ?_
      rintro e W2 ⟨rfl, X2⟩
      go_wp2_with fail
      clear hHeld
      refine hK.out _ _ (ms1.out _ X2) (fun hHeld => ?_)
      clear hK K
      try simp only [List.setIfInBounds_toArray, List.set_cons_zero, List.set_cons_succ]
      refine wpAnyH_listed #[true, true, true, true, true, true, true, true, true, false, false] (by kernel_rfl) ?_
      refine wpAnyT_begin [9, 10] (by kernel_rfl) (by kernel_rfl) ?_
      refine wpAnyT_take (oi := ⟨some 20, Op.binOp BinOp.add 3 (Operand.tmp 11) (Operand.tmp 19) 3, 3, _, _, none⟩) (v := .int .i64 S2) rfl (fun _ _ _ h => h) (by rfl) (by assumption) (fun wS hSw => ?_) ?_
      · (try dsimp only at hSw); go_simp
      simp only [Act.put, List.setIfInBounds_toArray, List.set_cons_zero, List.set_cons_succ]
      refine wpAnyT_take (oi := ⟨some 3, Op.assign (Operand.tmp 20), 3, _, _, none⟩) (v := .int .i64 S2) rfl (fun _ _ _ h => h) (by rfl) (by assumption) (fun wS hSw => ?_) ?_
      · (try dsimp only at hSw); go_simp
      simp only [Act.put, List.setIfInBounds_toArray, List.set_cons_zero, List.set_cons_succ]
      refine wpAnyT_end ?_
      refine wpAnyH_listed #[true, true, true, true, true, true, true, true, true, true, true] (by kernel_rfl) ?_
      refine wpAnyH_done (by kernel_rfl) ?_ _
      clear hHeld
      go_wp2_with fail
      go_roundw
      case rel => exact ⟨k + 1, by omega, by go_num, by rw [HS2.out], X2⟩
      case measure => simp [RowKit.intOf]; omega
    · have hkm : k = m := by omega
      go_wp2_with fail
      go_ret
      exact ⟨ret_i (by rw [← HF.out, ← hkm]), hI.low⟩

end Go.Proofs.Ytmldgjhecoeldaa

namespace Go.Proofs.Ytmldgjhecoeldaa
open Go.RowKit Go.Lib

/-- What Check answers of a ring. -/
def cap1 (ps : List (Int × Int)) : List (Int × Int) := ps ++ [pt ps 0]
def rchkP (ps : List (Int × Int)) : Int := if ps.length < 3 ∨ 40 ≤ ps.length then 2 else chkP (cap1 ps) (simpleP (cap1 ps))
theorem rchk_few {ps : List (Int × Int)} (h : ps.length < 3) : 2 = rchkP ps := by unfold rchkP; rw [if_pos (.inl h)]
theorem rchk_many {ps : List (Int × Int)} (h : 40 ≤ ps.length) : 2 = rchkP ps := by unfold rchkP; rw [if_pos (.inr h)]
theorem rchk_mid {ps : List (Int × Int)} (h : 3 ≤ ps.length) (k : ps.length < 40) : chkP (cap1 ps) (simpleP (cap1 ps)) = rchkP ps := by unfold rchkP; rw [if_neg (by omega)]
theorem RowP.cells0 {w : World} {b o n c : Nat} {ps : List (Int × Int)} (h : RowP w (.slice (some ⟨b, o, none⟩) n c) ps) {x y : Int} (hi : ps[0]? = some (x, y)) :
    w.cell? ⟨b, o, none⟩ = some (.int .i64 x) ∧ w.cell? ⟨b, o + 1, none⟩ = some (.int .i64 y) := by
  have := h.cells hi
  rwa [Nat.zero_mul, Nat.add_zero] at this
theorem own_low {b c : Nat} {w : World} {v : Value} {ps : List (Int × Int)} (h : Own b w v ps) (hc : c ≤ b) : Own c w v ps := by
  refine ⟨h.1, ?_⟩
  rcases h.2 with h2 | ⟨k, cap, cur, h1, h2, h3⟩
  · exact .inl h2
  · exact .inr ⟨k, cap, cur, h1, Nat.le_trans hc h2, h3⟩
theorem step_own {ops : Array Oper} {o : Oper} {a : Act} {w : World} {K : Act → World → Prop} {Q : Exit → Act → World → Prop} {E : Prop} (hgd : o.guard = none) (s x : Operand)
    (ho : o.op = .call { callee := .builtin .append, args := #[s, x], argTypes := #[25, 25] }) {b : Nat} {v vx : Value} {ps qs : List (Int × Int)} (hs : a.eval s = v) (h : Own b w v ps)
    (hx : a.eval x = vx) (hr : RowP w vx qs) (hn : ps.length + qs.length ≤ 100000) (hb : b ≤ w.heap.size)
    (hK : ∀ v' w', Own b w' v' (ps ++ qs) → w.grownBy w' v.ownBlock → K (a.put o.dst v') w') :
    if Region.wanted o (yielded ops a.tmps) = true then Oper.wp Try.prog o a w K Q else E := by
  have hw : Region.wanted o (yielded ops a.tmps) = true := by simp [Region.wanted, hgd]
  rw [if_pos hw]
  obtain ⟨v', w', e1, e2, e3⟩ := run_append_own o.type h hr hn hb
  unfold Oper.wp execOp
  simp only [ho, resolve, invoke, builtin, Sem.run_bind, Sem.run_pure, Result.andThen_ok, List.map_toArray, List.map_cons, List.map_nil, hs, hx, e1]
  exact hK v' w' e2 e3

set_option linter.unusedSimpArgs false in
set_option maxRecDepth 100000 in
set_option maxHeartbeats 8000000 in
theorem ringcheck_any (v : Value) (ps : List (Int × Int)) (w : World) (hv : RowP w v ps) :
    Calls Try.prog 14 #[v] w fun e w' => e = .returned (.int .i64 (rchkP ps)) ∧ Below w.heap.size w w' := by
  have hv0 := hv
  obtain ⟨a, cap, rfl, hc1, hc2, -⟩ := hv0
  by_cases h3 : ps.length < 3
  · have HV := Lib.hid (rchk_few h3)
    clear hv
    generalize ps.length = m at *
    have b1 : (m : Int) < 3 := by omega
    go_enter Try.func14, Try.ntmps14
    go_wp2_with fail
    go_ret
    exact ⟨ret_i HV.out, Below.refl _ _⟩
  by_cases h4 : 40 ≤ ps.length
  · have HV := Lib.hid (rchk_many h4)
    clear hv
    generalize ps.length = m at *
    have b1 : ¬ (m : Int) < 3 := by omega
    have b2 : (40 : Int) ≤ m := by omega
    go_enter Try.func14, Try.ntmps14
    go_wp2_with fail
    go_ret
    exact ⟨ret_i HV.out, Below.refl _ _⟩
  have HR := Lib.hid (rchk_mid (show 3 ≤ ps.length by omega) (show ps.length < 40 by omega))
  have hp : ps[0]? = some ((pt ps 0).1, (pt ps 0).2) := at_pt (by omega)
  have HA := Lib.hid (show cap1 ps = ps ++ [((pt ps 0).1, (pt ps 0).2)] from rfl)
  obtain ⟨b, o, rfl, -⟩ := hv.spot (by omega)
  generalize (pt ps 0).1 = x at *
  generalize (pt ps 0).2 = y at *
  obtain ⟨m, hm⟩ : ∃ m, ps.length = m := ⟨_, rfl⟩
  rw [hm] at hv hc1 h3 h4 ⊢
  have HM := Lib.hid hm
  have HV := Lib.hid hv
  have HP := Lib.hid hp
  clear hm hv hp
  have b1 : ¬ (m : Int) < 3 := by omega
  have b2 : ¬ (40 : Int) ≤ m := by omega
  have b3 : (0 : Int) < m := by omega
  have b4 : ¬ m = 0 := by omega
  have b5 : 0 < m := by omega
  have C0 : Has w [] w := Has.nil (Below.refl _ _)
  go_enter Try.func14, Try.ntmps14
  go_wp2_with fail
  have X0 := C0.drew
  clear C0
  have ms1 := Lib.hid (show ∀ w', Has w [] w' → (w'.cell? ⟨b, o, none⟩ = some (.int .i64 x) ∧ w'.cell? ⟨b, o + 1, none⟩ = some (.int .i64 y)) ∧ Has w [] w' from fun w' h => by
    have hRb := HV.out.later h.low
    exact ⟨⟨(RowP.cells0 hRb HP.out).1, (RowP.cells0 hRb HP.out).2⟩, h⟩)
  refine wp_region_held_drew (S := (fun w' => (w'.cell? ⟨b, o, none⟩ = some (.int .i64 x) ∧ w'.cell? ⟨b, o + 1, none⟩ = some (.int .i64 y)) ∧ Has w [] w')) (by kernel_rfl) (ms1.out _ X0) (fun hHeld => ?_)
  refine wpAnyT_begin [0, 2, 3, 4] (by kernel_rfl) (by kernel_rfl) ?_
  refine wpAnyT_take (oi := ⟨some 11, Op.move (Operand.tmp 0), 25, _, _, none⟩) (v := .slice (some ⟨b, o, none⟩) m cap) rfl (fun _ _ _ h => h) (by rfl) (by assumption) (fun wS hSw => ?_) ?_
  · (try dsimp only at hSw); go_simp
  simp only [Act.put, List.setIfInBounds_toArray, List.set_cons_zero, List.set_cons_succ]
  refine wpAnyT_take (oi := ⟨some 13, Op.move (Operand.tmp 0), 25, _, _, none⟩) (v := .slice (some ⟨b, o, none⟩) m cap) rfl (fun _ _ _ h => h) (by rfl) (by assumption) (fun wS hSw => ?_) ?_
  · (try dsimp only at hSw); go_simp
  simp only [Act.put, List.setIfInBounds_toArray, List.set_cons_zero, List.set_cons_succ]
  refine wpAnyT_take (oi := ⟨some 14, Op.indexAddr 25 (Operand.tmp 13) (Operand.const (Value.int IntKind.i64 0)), 0, _, _, none⟩) (v := .pointer (some ⟨b, o, none⟩)) rfl (fun _ _ _ h => h) (by rfl) (by assumption) (fun wS hSw => ?_) ?_
  · (try dsimp only at hSw); go_simp
  simp only [Act.put, List.setIfInBounds_toArray, List.set_cons_zero, List.set_cons_succ]
  refine wpAnyT_take (oi := ⟨some 15, Op.load 24 (Operand.tmp 14), 24, _, _, none⟩) (v := .agg #[.int .i64 x, .int .i64 y]) rfl (fun _ _ _ h => h) (by rfl) (by assumption) (fun wS hSw => ?_) ?_
  · (try dsimp only at hSw); go_simp
  simp only [Act.put, List.setIfInBounds_toArray, List.set_cons_zero, List.set_cons_succ]
  refine wpAnyT_end ?_
  refine wpAnyH_listed #[true, false, true, true, true, false, false, false, false] (by kernel_rfl) ?_
  refine wpAnyH_ready (rs := [1, 5]) (by kernel_rfl) (by simp) ?_
  refine AllReadyH.cons (o := ⟨some 12, Op.call { callee := Callee.value (Operand.func 28), args := #[Operand.tmp 11], argTypes := #[25] }, 25, _, _, none⟩) rfl (fun K hK => ?_) (AllReadyH.cons (o := ⟨some 16, Op.buildSlice 25 1 #[(0, Operand.tmp 15)], 25, _, _, none⟩) rfl (fun K hK => ?_) AllReadyH.nil)
  · skip
    go_simp
    go_at_call 28
    refine (clone_any _ ps _ (HV.out.later X0.low) (by rw [HM.out]; omega)).mono ?_
    rintro e W1 ⟨u, rfl, hO, g1⟩
    have C1 := X0.later g1
    replace hO := own_low hO X0.low.size
    go_wp2_with fail
    clear hHeld
    refine hK.out _ _ (ms1.out _ C1) (fun hHeld => ?_)
    clear hK K
    try simp only [List.setIfInBounds_toArray, List.set_cons_zero, List.set_cons_succ]
    refine wpAnyH_listed #[true, true, true, true, true, false, false, false, false] (by kernel_rfl) ?_
    refine wpAnyH_ready (rs := [5]) (by kernel_rfl) (by simp) ?_
    refine AllReadyH.cons (o := ⟨some 16, Op.buildSlice 25 1 #[(0, Operand.tmp 15)], 25, _, _, none⟩) rfl (fun K hK => ?_) AllReadyH.nil
    obtain ⟨Cx, Rx⟩ := one_row C1 rfl [(x, y)] (by simp)
    replace hO := hO.later ((Below.refl _ W1).alloc (Nat.le_refl _) (.cells (flat [(x, y)]).toArray 24))
    go_simp
    change RowP (W1.alloc (.cells #[.int .i64 x, .int .i64 y] 24)) _ _ at Rx
    change Own _ (W1.alloc (.cells #[.int .i64 x, .int .i64 y] 24)) _ _ at hO
    change Has w _ (W1.alloc (.cells #[.int .i64 x, .int .i64 y] 24)) at Cx
    have CC := Cx.tail
    clear hHeld
    refine hK.out _ _ (ms1.out _ CC) (fun hHeld => ?_)
    clear hK K
    try simp only [List.setIfInBounds_toArray, List.set_cons_zero, List.set_cons_succ]
    refine wpAnyH_listed #[true, true, true, true, true, true, false, false, false] (by kernel_rfl) ?_
    refine wpAnyH_ready (rs := [6]) (by kernel_rfl) (by simp) ?_
    refine AllReadyH.cons (o := ⟨some 17, Op.call { callee := Callee.builtin Builtin.append, args := #[Operand.tmp 12, Operand.tmp 16], argTypes := #[25, 25] }, 25, _, _, none⟩) rfl (fun K hK => ?_) AllReadyH.nil
    refine step_own rfl _ _ rfl rfl hO rfl Rx (by rw [HM.out]; simp; omega) CC.low.size ?_
    intro u6 w6 hO6 hG6
    have X6 := CC.grown hO (by intro p hp; simp at hp) (Nat.le_refl _) hG6
    clear hHeld
    refine hK.out _ _ (ms1.out _ X6) (fun hHeld => ?_)
    clear hK K
    try simp only [List.setIfInBounds_toArray, List.set_cons_zero, List.set_cons_succ]
    refine wpAnyH_listed #[true, true, true, true, true, true, true, false, false] (by kernel_rfl) ?_
    rw [← HA.out] at hO6
    refine wpAnyH_ready (rs := [7]) (by kernel_rfl) (by simp) ?_
    refine AllReadyH.cons (o := ⟨some 18, Op.call { callee := Callee.value (Operand.func 27), args := #[Operand.tmp 17], argTypes := #[25] }, 31, _, _, none⟩) rfl (fun K hK => ?_) AllReadyH.nil
    go_simp
    go_at_call 27
    refine (Has.call X6 (lcheck_any _ _ _ hO6.row)).mono ?_
    rintro e w7 ⟨rfl, X7⟩
    go_wp2_with fail
    rw [HR.out]
    clear hHeld
    refine hK.out _ _ (ms1.out _ X7) (fun hHeld => ?_)
    clear hK K
    try simp only [List.setIfInBounds_toArray, List.set_cons_zero, List.set_cons_succ]
    refine wpAnyH_listed #[true, true, true, true, true, true, true, true, false] (by kernel_rfl) ?_
    refine wpAnyT_begin [8] (by kernel_rfl) (by kernel_rfl) ?_
    refine wpAnyT_take (oi := ⟨some 2, Op.assign (Operand.tmp 18), 31, _, _, none⟩) (v := .int .i64 (rchkP ps)) rfl (fun _ _ _ h => h) (by rfl) (by assumption) (fun wS hSw => ?_) ?_
    · (try dsimp only at hSw); go_simp
    simp only [Act.put, List.setIfInBounds_toArray, List.set_cons_zero, List.set_cons_succ]
    refine wpAnyT_end ?_
    refine wpAnyH_listed #[true, true, true, true, true, true, true, true, true] (by kernel_rfl) ?_
    refine wpAnyH_done (by kernel_rfl) ?_ _
    clear hHeld
    go_wp2_with fail
    go_ret
    exact ⟨rfl, X7.low⟩
  · skip
    obtain ⟨Cx, Rx⟩ := one_row X0 rfl [(x, y)] (by simp)
    go_simp
    change RowP (w.drew.alloc (.cells #[.int .i64 x, .int .i64 y] 24)) _ _ at Rx
    change Has w _ (w.drew.alloc (.cells #[.int .i64 x, .int .i64 y] 24)) at Cx
    have C2 := Cx.tail
    clear hHeld
    refine hK.out _ _ (ms1.out _ C2) (fun hHeld => ?_)
    clear hK K
    try simp only [List.setIfInBounds_toArray, List.set_cons_zero, List.set_cons_succ]
    refine wpAnyH_listed #[true, false, true, true, true, true, false, false, false] (by kernel_rfl) ?_
    refine wpAnyH_ready (rs := [1]) (by kernel_rfl) (by simp) ?_
    refine AllReadyH.cons (o := ⟨some 12, Op.call { callee := Callee.value (Operand.func 28), args := #[Operand.tmp 11], argTypes := #[25] }, 25, _, _, none⟩) rfl (fun K hK => ?_) AllReadyH.nil
    go_simp
    go_at_call 28
    refine (clone_any _ ps _ (HV.out.later C2.low) (by rw [HM.out]; omega)).mono ?_
    rintro e W1 ⟨u, rfl, hO, g1⟩
    have C1 := C2.later g1
    replace hO := own_low hO C2.low.size
    go_wp2_with fail
    replace Rx := Rx.later g1
    have CC := C1
    clear hHeld
    refine hK.out _ _ (ms1.out _ CC) (fun hHeld => ?_)
    clear hK K
    try simp only [List.setIfInBounds_toArray, List.set_cons_zero, List.set_cons_succ]
    refine wpAnyH_listed #[true, true, true, true, true, true, false, false, false] (by kernel_rfl) ?_
    refine wpAnyH_ready (rs := [6]) (by kernel_rfl) (by simp) ?_
    refine AllReadyH.cons (o := ⟨some 17, Op.call { callee := Callee.builtin Builtin.append, args := #[Operand.tmp 12, Operand.tmp 16], argTypes := #[25, 25] }, 25, _, _, none⟩) rfl (fun K hK => ?_) AllReadyH.nil
    refine step_own rfl _ _ rfl rfl hO rfl Rx (by rw [HM.out]; simp; omega) CC.low.size ?_
    intro u6 w6 hO6 hG6
    have X6 := CC.grown hO (by intro p hp; simp at hp) (Nat.le_refl _) hG6
    clear hHeld
    refine hK.out _ _ (ms1.out _ X6) (fun hHeld => ?_)
    clear hK K
    try simp only [List.setIfInBounds_toArray, List.set_cons_zero, List.set_cons_succ]
    refine wpAnyH_listed #[true, true, true, true, true, true, true, false, false] (by kernel_rfl) ?_
    rw [← HA.out] at hO6
    refine wpAnyH_ready (rs := [7]) (by kernel_rfl) (by simp) ?_
    refine AllReadyH.cons (o := ⟨some 18, Op.call { callee := Callee.value (Operand.func 27), args := #[Operand.tmp 17], argTypes := #[25] }, 31, _, _, none⟩) rfl (fun K hK => ?_) AllReadyH.nil
    go_simp
    go_at_call 27
    refine (Has.call X6 (lcheck_any _ _ _ hO6.row)).mono ?_
    rintro e w7 ⟨rfl, X7⟩
    go_wp2_with fail
    rw [HR.out]
    clear hHeld
    refine hK.out _ _ (ms1.out _ X7) (fun hHeld => ?_)
    clear hK K
    try simp only [List.setIfInBounds_toArray, List.set_cons_zero, List.set_cons_succ]
    refine wpAnyH_listed #[true, true, true, true, true, true, true, true, false] (by kernel_rfl) ?_
    refine wpAnyT_begin [8] (by kernel_rfl) (by kernel_rfl) ?_
    refine wpAnyT_take (oi := ⟨some 2, Op.assign (Operand.tmp 18), 31, _, _, none⟩) (v := .int .i64 (rchkP ps)) rfl (fun _ _ _ h => h) (by rfl) (by assumption) (fun wS hSw => ?_) ?_
    · (try dsimp only at hSw); go_simp
    simp only [Act.put, List.setIfInBounds_toArray, List.set_cons_zero, List.set_cons_succ]
    refine wpAnyT_end ?_
    refine wpAnyH_listed #[true, true, true, true, true, true, true, true, true] (by kernel_rfl) ?_
    refine wpAnyH_done (by kernel_rfl) ?_ _
    clear hHeld
    go_wp2_with fail
    go_ret
    exact ⟨rfl, X7.low⟩

end Go.Proofs.Ytmldgjhecoeldaa

namespace Go.Proofs.Ytmldgjhecoeldaa
open Go.RowKit Go.Lib Geo

theorem lo_le {sel : Int × Int → Int} {ps : List (Int × Int)} : ∀ {n k : Nat}, n ≤ ps.length → k < n → lo sel ps n ≤ sel (pt ps k) := by
  intro n
  induction n with
  | zero => intro k _ h; omega
  | succ n ih =>
    intro k hn hk
    rw [lo_next (by omega)]
    by_cases h : k = n
    · subst h; exact Int.min_le_right _ _
    · exact Int.le_trans (Int.min_le_left _ _) (ih (by omega) (by omega))
theorem hi_ge {sel : Int × Int → Int} {ps : List (Int × Int)} : ∀ {n k : Nat}, n ≤ ps.length → k < n → sel (pt ps k) ≤ hi sel ps n := by
  intro n
  induction n with
  | zero => intro k _ h; omega
  | succ n ih =>
    intro k hn hk
    rw [hi_next (by omega)]
    by_cases h : k = n
    · subst h; exact Int.le_max_right _ _
    · exact Int.le_trans (ih (by omega) (by omega)) (Int.le_max_left _ _)
/-- The boxes of lists are near, if those of two segments of theirs are. -/
theorem near_of {l m : List (Int × Int)} {i j : Nat} (hi' : i + 1 < l.length) (hj : j + 1 < m.length) (h : bnear (pt l i).1 (pt l i).2 (pt l (i + 1)).1 (pt l (i + 1)).2 (pt m j).1 (pt m j).2 (pt m (j + 1)).1 (pt m (j + 1)).2) : nearP l m = true := by
  obtain ⟨h1, h2, h3, h4⟩ := h
  have a1 := lo_le (sel := Prod.fst) (ps := l) (Nat.le_refl _) (show i < l.length by omega)
  have a2 := lo_le (sel := Prod.fst) (ps := l) (Nat.le_refl _) hi'
  have a3 := lo_le (sel := Prod.snd) (ps := l) (Nat.le_refl _) (show i < l.length by omega)
  have a4 := lo_le (sel := Prod.snd) (ps := l) (Nat.le_refl _) hi'
  have b1 := hi_ge (sel := Prod.fst) (ps := l) (Nat.le_refl _) (show i < l.length by omega)
  have b2 := hi_ge (sel := Prod.fst) (ps := l) (Nat.le_refl _) hi'
  have b3 := hi_ge (sel := Prod.snd) (ps := l) (Nat.le_refl _) (show i < l.length by omega)
  have b4 := hi_ge (sel := Prod.snd) (ps := l) (Nat.le_refl _) hi'
  have c1 := lo_le (sel := Prod.fst) (ps := m) (Nat.le_refl _) (show j < m.length by omega)
  have c2 := lo_le (sel := Prod.fst) (ps := m) (Nat.le_refl _) hj
  have c3 := lo_le (sel := Prod.snd) (ps := m) (Nat.le_refl _) (show j < m.length by omega)
  have c4 := lo_le (sel := Prod.snd) (ps := m) (Nat.le_refl _) hj
  have d1 := hi_ge (sel := Prod.fst) (ps := m) (Nat.le_refl _) (show j < m.length by omega)
  have d2 := hi_ge (sel := Prod.fst) (ps := m) (Nat.le_refl _) hj
  have d3 := hi_ge (sel := Prod.snd) (ps := m) (Nat.le_refl _) (show j < m.length by omega)
  have d4 := hi_ge (sel := Prod.snd) (ps := m) (Nat.le_refl _) hj
  unfold nearP bxo
  rw [if_neg (by omega), if_neg (by omega)]
  exact near_yes (by simp only; omega) (by simp only; omega) (by simp only; omega) (by simp only; omega)
theorem rt_in {p : Int × Int} (h : rtP p = true) : In p.1 p.2 := by
  unfold rtP at h
  rw [inl_iff] at h
  rw [in_iff]
  omega
theorem lmeet_same {a0 a1 b0 b1 c0 c1 d0 d1 : Int} (ha : rtP (a0, a1) = true) (hb : rtP (b0, b1) = true) (hc : rtP (c0, c1) = true) (hd : rtP (d0, d1) = true) : lmeet a0 a1 b0 b1 c0 c1 d0 d1 = meetOf a0 a1 b0 b1 c0 c1 d0 d1 := by
  unfold lmeet
  split
  · rfl
  · rename_i hn
    refine Eq.symm (Decidable.byContradiction fun h => hn ?_)
    exact near_of (l := [(a0, a1), (b0, b1)]) (m := [(c0, c1), (d0, d1)]) (i := 0) (j := 0) (by simp) (by simp) (bnear_of_meet (rt_in ha) (rt_in hb) (rt_in hc) (rt_in hd) h)
theorem lmeet_pt {p q r s : Int × Int} (ha : rtP p = true) (hb : rtP q = true) (hc : rtP r = true) (hd : rtP s = true) : lmeet p.1 p.2 q.1 q.2 r.1 r.2 s.1 s.2 = meetOf p.1 p.2 q.1 q.2 r.1 r.2 s.1 s.2 := lmeet_same ha hb hc hd
theorem rtp_at {ps : List (Int × Int)} {k : Nat} (h : ps.all rtP = true) (hk : k < ps.length) : rtP (pt ps k) = true := (List.all_eq_true.1 h) (pt ps k) (List.mem_of_getElem? (at_pt hk))
theorem anyTo_congr {f g : Nat → Bool} : ∀ {n : Nat}, (∀ k, k < n → f k = g k) → anyTo f n = anyTo g n := by
  intro n
  induction n with
  | zero => intro _; rfl
  | succ n ih => intro h; rw [anyTo, anyTo, ih (fun k hk => h k (by omega)), h n (by omega)]
theorem simple_same {ps : List (Int × Int)} (h : ps.all rtP = true) : simpleP ps = simpleR ps := by
  unfold simpleP simpleR
  rw [anyTo_congr (g := badS2 ps)]
  intro j hj
  unfold badS badS2
  rw [anyTo_congr (g := badM2 ps j)]
  intro i hi
  unfold badM badM2 lmK mK
  rw [lmeet_pt (rtp_at h (by omega)) (rtp_at h (by omega)) (rtp_at h (by omega)) (rtp_at h (by omega))]
theorem chk_same (ps : List (Int × Int)) : chkP ps (simpleP ps) = chkP ps (simpleR ps) := by
  cases h : ps.all rtP
  · unfold chkP; rw [h]; simp only [if_true]
  · rw [simple_same h]
end Go.Proofs.Ytmldgjhecoeldaa

namespace Go.Proofs.Ytmldgjhecoeldaa
open Go.RowKit Go.Lib

theorem Has.grown2 {w W W' : World} {bs : List (Nat × List Value)} {b : Nat} {v : Value} {ps : List (Int × Int)} (h : Has w bs W) (ho : Own b W v ps) (hb : ∀ p ∈ bs, v.ownBlock ≠ some p.1) (hw : w.heap.size ≤ b) (hg : W.grownBy W' v.ownBlock) : Has w bs W' := by
  have hk : ∀ k, v.ownBlock = some k → b ≤ k := fun k e => (World.ownsRow.lt ho k e).1
  refine ⟨fun p hp i u hu => ?_, fun p hp => Nat.lt_of_lt_of_le (h.lt p hp) hg.size, h.ge, h.nd, h.low.grown hg h.low.size (fun k e => by have := hk k e; omega)⟩
  obtain ⟨c1, c2⟩ := h.c p hp i u hu
  have hblock := hg.block p.1 (h.lt p hp) (fun e => hb p hp e.symm)
  constructor
  · rw [← c1]; unfold World.cell?; simp only [hblock]
  · rw [← c2]; unfold World.frozen?; simp only [hblock]
theorem own_empty {b : Nat} (w : World) (hb : b ≤ w.heap.size) : Own b (w.alloc (.cells #[] 24)) (.slice (some ⟨w.heap.size, 0, none⟩) 0 0) [] := own_low (World.ownsRow_lit w #[] 0 (Nat.le_refl _) (by simp [maxLen]) rfl) hb
theorem row_one {w W : World} {T : Nat} {x y : Int} {bs : List (Nat × List Value)} (h : Has w ((T, [.int .i64 x, .int .i64 y]) :: bs) W) : RowP W (.slice (some ⟨T, 0, none⟩) 1 1) [(x, y)] :=
  RowP.block (ps := [(x, y)]) h.cells (Nat.le_refl _) (by simp)

set_option linter.unusedSimpArgs false in
set_option maxRecDepth 100000 in
set_option maxHeartbeats 8000000 in
theorem rringcheck_any (v : Value) (ps : List (Int × Int)) (w : World) (hv : RowP w v ps) :
    Calls Try.prog 15 #[v] w fun e w' => e = .returned (.int .i64 (rchkP ps)) ∧ Below w.heap.size w w' := by
  have hv0 := hv
  obtain ⟨a, cap, rfl, hc1, hc2, -⟩ := hv0
  by_cases h3 : ps.length < 3
  · have HV := Lib.hid (rchk_few h3)
    clear hv
    generalize ps.length = m at *
    have b1 : (m : Int) < 3 := by omega
    go_enter Try.func15, Try.ntmps15
    go_wp2_with fail
    go_ret
    exact ⟨ret_i HV.out, Below.refl _ _⟩
  by_cases h4 : 40 ≤ ps.length
  · have HV := Lib.hid (rchk_many h4)
    clear hv
    generalize ps.length = m at *
    have b1 : ¬ (m : Int) < 3 := by omega
    have b2 : (40 : Int) ≤ m := by omega
    go_enter Try.func15, Try.ntmps15
    go_wp2_with fail
    go_ret
    exact ⟨ret_i HV.out, Below.refl _ _⟩
  have HR := Lib.hid ((chk_same (cap1 ps)).symm.trans (rchk_mid (show 3 ≤ ps.length by omega) (show ps.length < 40 by omega)))
  have hp : ps[0]? = some ((pt ps 0).1, (pt ps 0).2) := at_pt (by omega)
  have HA := Lib.hid (show cap1 ps = ps ++ [((pt ps 0).1, (pt ps 0).2)] from rfl)
  obtain ⟨b, o, rfl, -⟩ := hv.spot (by omega)
  generalize (pt ps 0).1 = x at *
  generalize (pt ps 0).2 = y at *
  obtain ⟨m, hm⟩ : ∃ m, ps.length = m := ⟨_, rfl⟩
  rw [hm] at hv hc1 h3 h4 ⊢
  have HM := Lib.hid hm
  have HV := Lib.hid hv
  have HP := Lib.hid hp
  clear hm hv hp
  have b1 : ¬ (m : Int) < 3 := by omega
  have b2 : ¬ (40 : Int) ≤ m := by omega
  have b3 : (0 : Int) < m := by omega
  have b4 : ¬ m = 0 := by omega
  have b5 : 0 < m := by omega
  have C0 : Has w [] w := Has.nil (Below.refl _ _)
  go_enter Try.func15, Try.ntmps15
  go_wp2_with fail
  have X0 := C0.drew
  clear C0
  have ms1 := Lib.hid (show ∀ w', Has w [] w' → (w'.cell? ⟨b, o, none⟩ = some (.int .i64 x) ∧ w'.cell? ⟨b, o + 1, none⟩ = some (.int .i64 y)) ∧ Has w [] w' from fun w' h => by
    have hRb := HV.out.later h.low
    exact ⟨⟨(RowP.cells0 hRb HP.out).1, (RowP.cells0 hRb HP.out).2⟩, h⟩)
  refine wp_region_held_drew (S := (fun w' => (w'.cell? ⟨b, o, none⟩ = some (.int .i64 x) ∧ w'.cell? ⟨b, o + 1, none⟩ = some (.int .i64 y)) ∧ Has w [] w')) (by kernel_rfl) (ms1.out _ X0) (fun hHeld => ?_)
  refine wpAnyT_begin [1, 3, 4, 5] (by kernel_rfl) (by kernel_rfl) ?_
  refine wpAnyT_take (oi := ⟨some 12, Op.move (Operand.tmp 0), 25, _, _, none⟩) (v := .slice (some ⟨b, o, none⟩) m cap) rfl (fun _ _ _ h => h) (by rfl) (by assumption) (fun wS hSw => ?_) ?_
  · (try dsimp only at hSw); go_simp
  simp only [Act.put, List.setIfInBounds_toArray, List.set_cons_zero, List.set_cons_succ]
  refine wpAnyT_take (oi := ⟨some 14, Op.move (Operand.tmp 0), 25, _, _, none⟩) (v := .slice (some ⟨b, o, none⟩) m cap) rfl (fun _ _ _ h => h) (by rfl) (by assumption) (fun wS hSw => ?_) ?_
  · (try dsimp only at hSw); go_simp
  simp only [Act.put, List.setIfInBounds_toArray, List.set_cons_zero, List.set_cons_succ]
  refine wpAnyT_take (oi := ⟨some 15, Op.indexAddr 25 (Operand.tmp 14) (Operand.const (Value.int IntKind.i64 0)), 0, _, _, none⟩) (v := .pointer (some ⟨b, o, none⟩)) rfl (fun _ _ _ h => h) (by rfl) (by assumption) (fun wS hSw => ?_) ?_
  · (try dsimp only at hSw); go_simp
  simp only [Act.put, List.setIfInBounds_toArray, List.set_cons_zero, List.set_cons_succ]
  refine wpAnyT_take (oi := ⟨some 16, Op.load 24 (Operand.tmp 15), 24, _, _, none⟩) (v := .agg #[.int .i64 x, .int .i64 y]) rfl (fun _ _ _ h => h) (by rfl) (by assumption) (fun wS hSw => ?_) ?_
  · (try dsimp only at hSw); go_simp
  simp only [Act.put, List.setIfInBounds_toArray, List.set_cons_zero, List.set_cons_succ]
  refine wpAnyT_end ?_
  refine wpAnyH_listed #[false, true, false, true, true, true, false, false, false, false] (by kernel_rfl) ?_
  generalize w.drew = V0 at *
  refine wpAnyH_ready (rs := [0, 6]) (by kernel_rfl) (by simp) ?_
  refine AllReadyH.cons (o := ⟨some 11, Op.buildSlice 25 0 #[], 25, _, _, none⟩) rfl (fun K hK => ?_) (AllReadyH.cons (o := ⟨some 17, Op.buildSlice 25 1 #[(0, Operand.tmp 16)], 25, _, _, none⟩) rfl (fun K hK => ?_) AllReadyH.nil)
  · skip
    have O3 := own_empty V0 X0.low.size
    have C2 := X0.alloc (.cells #[] 24)
    have eO3 : ∀ p ∈ (([] : List (Nat × List Value)) : List (Nat × List Value)), (Value.slice (some ⟨V0.heap.size, 0, none⟩) 0 0).ownBlock ≠ some p.1 := fun p hp e => by have := X0.lt p hp; simp [Value.ownBlock] at e; omega
    go_simp
    generalize V0.alloc (.cells #[] 24) = V1 at *
    generalize V0.heap.size = q4 at *
    clear hHeld
    refine hK.out _ _ (ms1.out _ C2) (fun hHeld => ?_)
    clear hK K
    try simp only [List.setIfInBounds_toArray, List.set_cons_zero, List.set_cons_succ]
    refine wpAnyH_listed #[true, true, false, true, true, true, false, false, false, false] (by kernel_rfl) ?_
    refine wpAnyH_ready (rs := [2, 6]) (by kernel_rfl) (by simp) ?_
    refine AllReadyH.cons (o := ⟨some 13, Op.call { callee := Callee.builtin Builtin.append, args := #[Operand.tmp 11, Operand.tmp 12], argTypes := #[25, 25] }, 25, _, _, none⟩) rfl (fun K hK => ?_) (AllReadyH.cons (o := ⟨some 17, Op.buildSlice 25 1 #[(0, Operand.tmp 16)], 25, _, _, none⟩) rfl (fun K hK => ?_) AllReadyH.nil)
    · skip
      refine step_own rfl _ _ rfl rfl O3 rfl (HV.out.later C2.low) (by rw [HM.out]; simp; omega) C2.low.size ?_
      intro u8 V5 O7 GO7
      have C6 := C2.grown2 O3 eO3 (Nat.le_refl _) GO7
      rw [List.nil_append] at O7
      clear hHeld
      refine hK.out _ _ (ms1.out _ C6) (fun hHeld => ?_)
      clear hK K
      try simp only [List.setIfInBounds_toArray, List.set_cons_zero, List.set_cons_succ]
      refine wpAnyH_listed #[true, true, true, true, true, true, false, false, false, false] (by kernel_rfl) ?_
      refine wpAnyH_ready (rs := [6]) (by kernel_rfl) (by simp) ?_
      refine AllReadyH.cons (o := ⟨some 17, Op.buildSlice 25 1 #[(0, Operand.tmp 16)], 25, _, _, none⟩) rfl (fun K hK => ?_) AllReadyH.nil
      have C10 := C6.push [.int .i64 x, .int .i64 y] 24
      change Has w ((V5.heap.size, [.int .i64 x, .int .i64 y]) :: []) (V5.alloc (.cells #[.int .i64 x, .int .i64 y] 24)) at C10
      have gC10 : Grows V5 (V5.alloc (.cells #[.int .i64 x, .int .i64 y] 24)) := (Below.refl _ _).alloc (Nat.le_refl _) _
      have LC10 := O7
      replace O7 := O7.later gC10
      go_simp
      generalize V5.alloc (.cells #[.int .i64 x, .int .i64 y] 24) = V9 at *
      generalize V5.heap.size = T11 at *
      clear hHeld
      refine hK.out _ _ (ms1.out _ C10.tail) (fun hHeld => ?_)
      clear hK K
      try simp only [List.setIfInBounds_toArray, List.set_cons_zero, List.set_cons_succ]
      refine wpAnyH_listed #[true, true, true, true, true, true, true, false, false, false] (by kernel_rfl) ?_
      refine wpAnyH_ready (rs := [7]) (by kernel_rfl) (by simp) ?_
      refine AllReadyH.cons (o := ⟨some 18, Op.call { callee := Callee.builtin Builtin.append, args := #[Operand.tmp 13, Operand.tmp 17], argTypes := #[25, 25] }, 25, _, _, none⟩) rfl (fun K hK => ?_) AllReadyH.nil
      refine step_own rfl _ _ rfl rfl O7 rfl (row_one C10) (by rw [HM.out]; simp; omega) C10.low.size ?_
      intro u15 V12 O14 GO14
      have C13 : Has w [] V12 := Has.grown2 (Has.nil C10.low) O7 (by intro p hp; cases hp) (Nat.le_refl _) GO14
      rw [← HA.out] at O14
      clear hHeld
      refine hK.out _ _ (ms1.out _ C13) (fun hHeld => ?_)
      clear hK K
      try simp only [List.setIfInBounds_toArray, List.set_cons_zero, List.set_cons_succ]
      refine wpAnyH_listed #[true, true, true, true, true, true, true, true, false, false] (by kernel_rfl) ?_
      refine wpAnyH_ready (rs := [8]) (by kernel_rfl) (by simp) ?_
      refine AllReadyH.cons (o := ⟨some 19, Op.call { callee := Callee.value (Operand.func 29), args := #[Operand.tmp 18], argTypes := #[25] }, 31, _, _, none⟩) rfl (fun K hK => ?_) AllReadyH.nil
      go_simp
      go_at_call 29
      refine (Has.call C13 (rcheck_any _ _ _ O14.row)).mono ?_
      rintro e V16 ⟨rfl, C17⟩
      go_wp2_with fail
      rw [HR.out]
      clear hHeld
      refine hK.out _ _ (ms1.out _ C17) (fun hHeld => ?_)
      clear hK K
      try simp only [List.setIfInBounds_toArray, List.set_cons_zero, List.set_cons_succ]
      refine wpAnyH_listed #[true, true, true, true, true, true, true, true, true, false] (by kernel_rfl) ?_
      refine wpAnyT_begin [9] (by kernel_rfl) (by kernel_rfl) ?_
      refine wpAnyT_take (oi := ⟨some 2, Op.assign (Operand.tmp 19), 31, _, _, none⟩) (v := .int .i64 (rchkP ps)) rfl (fun _ _ _ h => h) (by rfl) (by assumption) (fun wS hSw => ?_) ?_
      · (try dsimp only at hSw); go_simp
      simp only [Act.put, List.setIfInBounds_toArray, List.set_cons_zero, List.set_cons_succ]
      refine wpAnyT_end ?_
      refine wpAnyH_listed #[true, true, true, true, true, true, true, true, true, true] (by kernel_rfl) ?_
      refine wpAnyH_done (by kernel_rfl) ?_ _
      clear hHeld
      go_wp2_with fail
      go_ret
      exact ⟨rfl, C17.low⟩
    · skip
      have C19 := C2.push [.int .i64 x, .int .i64 y] 24
      change Has w ((V1.heap.size, [.int .i64 x, .int .i64 y]) :: []) (V1.alloc (.cells #[.int .i64 x, .int .i64 y] 24)) at C19
      have gC19 : Grows V1 (V1.alloc (.cells #[.int .i64 x, .int .i64 y] 24)) := (Below.refl _ _).alloc (Nat.le_refl _) _
      have LC19 := O3
      replace O3 := O3.later gC19
      have nC19 : ∀ p ∈ ([(V1.heap.size, [.int .i64 x, .int .i64 y])] : List (Nat × List Value)), (Value.slice (some ⟨q4, 0, none⟩) 0 0).ownBlock ≠ some p.1 := fun p hp e => by have := World.ownsRow.lt LC19 p.1 e; simp at hp; subst hp; simp at this
      go_simp
      generalize V1.alloc (.cells #[.int .i64 x, .int .i64 y] 24) = V18 at *
      generalize V1.heap.size = T20 at *
      clear hHeld
      refine hK.out _ _ (ms1.out _ C19.tail) (fun hHeld => ?_)
      clear hK K
      try simp only [List.setIfInBounds_toArray, List.set_cons_zero, List.set_cons_succ]
      refine wpAnyH_listed #[true, true, false, true, true, true, true, false, false, false] (by kernel_rfl) ?_
      refine wpAnyH_ready (rs := [2]) (by kernel_rfl) (by simp) ?_
      refine AllReadyH.cons (o := ⟨some 13, Op.call { callee := Callee.builtin Builtin.append, args := #[Operand.tmp 11, Operand.tmp 12], argTypes := #[25, 25] }, 25, _, _, none⟩) rfl (fun K hK => ?_) AllReadyH.nil
      refine step_own rfl _ _ rfl rfl O3 rfl (HV.out.later C19.low) (by rw [HM.out]; simp; omega) C19.low.size ?_
      intro u24 V21 O23 GO23
      have C22 := C19.grown2 O3 nC19 (Nat.le_refl _) GO23
      rw [List.nil_append] at O23
      clear hHeld
      refine hK.out _ _ (ms1.out _ C22.tail) (fun hHeld => ?_)
      clear hK K
      try simp only [List.setIfInBounds_toArray, List.set_cons_zero, List.set_cons_succ]
      refine wpAnyH_listed #[true, true, true, true, true, true, true, false, false, false] (by kernel_rfl) ?_
      refine wpAnyH_ready (rs := [7]) (by kernel_rfl) (by simp) ?_
      refine AllReadyH.cons (o := ⟨some 18, Op.call { callee := Callee.builtin Builtin.append, args := #[Operand.tmp 13, Operand.tmp 17], argTypes := #[25, 25] }, 25, _, _, none⟩) rfl (fun K hK => ?_) AllReadyH.nil
      refine step_own rfl _ _ rfl rfl O23 rfl (row_one C22) (by rw [HM.out]; simp; omega) C22.low.size ?_
      intro u28 V25 O27 GO27
      have C26 : Has w [] V25 := Has.grown2 (Has.nil C22.low) O23 (by intro p hp; cases hp) (Nat.le_refl _) GO27
      rw [← HA.out] at O27
      clear hHeld
      refine hK.out _ _ (ms1.out _ C26) (fun hHeld => ?_)
      clear hK K
      try simp only [List.setIfInBounds_toArray, List.set_cons_zero, List.set_cons_succ]
      refine wpAnyH_listed #[true, true, true, true, true, true, true, true, false, false] (by kernel_rfl) ?_
      refine wpAnyH_ready (rs := [8]) (by kernel_rfl) (by simp) ?_
      refine AllReadyH.cons (o := ⟨some 19, Op.call { callee := Callee.value (Operand.func 29), args := #[Operand.tmp 18], argTypes := #[25] }, 31, _, _, none⟩) rfl (fun K hK => ?_) AllReadyH.nil
      go_simp
      go_at_call 29
      refine (Has.call C26 (rcheck_any _ _ _ O27.row)).mono ?_
      rintro e V29 ⟨rfl, C30⟩
      go_wp2_with fail
      rw [HR.out]
      clear hHeld
      refine hK.out _ _ (ms1.out _ C30) (fun hHeld => ?_)
      clear hK K
      try simp only [List.setIfInBounds_toArray, List.set_cons_zero, List.set_cons_succ]
      refine wpAnyH_listed #[true, true, true, true, true, true, true, true, true, false] (by kernel_rfl) ?_
      refine wpAnyT_begin [9] (by kernel_rfl) (by kernel_rfl) ?_
      refine wpAnyT_take (oi := ⟨some 2, Op.assign (Operand.tmp 19), 31, _, _, none⟩) (v := .int .i64 (rchkP ps)) rfl (fun _ _ _ h => h) (by rfl) (by assumption) (fun wS hSw => ?_) ?_
      · (try dsimp only at hSw); go_simp
      simp only [Act.put, List.setIfInBounds_toArray, List.set_cons_zero, List.set_cons_succ]
      refine wpAnyT_end ?_
      refine wpAnyH_listed #[true, true, true, true, true, true, true, true, true, true] (by kernel_rfl) ?_
      refine wpAnyH_done (by kernel_rfl) ?_ _
      clear hHeld
      go_wp2_with fail
      go_ret
      exact ⟨rfl, C30.low⟩
  · skip
    have C32 := X0.push [.int .i64 x, .int .i64 y] 24
    change Has w ((V0.heap.size, [.int .i64 x, .int .i64 y]) :: []) (V0.alloc (.cells #[.int .i64 x, .int .i64 y] 24)) at C32
    go_simp
    generalize V0.alloc (.cells #[.int .i64 x, .int .i64 y] 24) = V31 at *
    generalize V0.heap.size = T33 at *
    clear hHeld
    refine hK.out _ _ (ms1.out _ C32.tail) (fun hHeld => ?_)
    clear hK K
    try simp only [List.setIfInBounds_toArray, List.set_cons_zero, List.set_cons_succ]
    refine wpAnyH_listed #[false, true, false, true, true, true, true, false, false, false] (by kernel_rfl) ?_
    refine wpAnyH_ready (rs := [0]) (by kernel_rfl) (by simp) ?_
    refine AllReadyH.cons (o := ⟨some 11, Op.buildSlice 25 0 #[], 25, _, _, none⟩) rfl (fun K hK => ?_) AllReadyH.nil
    have O36 := own_empty V31 C32.low.size
    have C35 := C32.alloc (.cells #[] 24)
    have eO36 : ∀ p ∈ ([(T33, [.int .i64 x, .int .i64 y])] : List (Nat × List Value)), (Value.slice (some ⟨V31.heap.size, 0, none⟩) 0 0).ownBlock ≠ some p.1 := fun p hp e => by have := C32.lt p hp; simp [Value.ownBlock] at e; omega
    go_simp
    generalize V31.alloc (.cells #[] 24) = V34 at *
    generalize V31.heap.size = q37 at *
    clear hHeld
    refine hK.out _ _ (ms1.out _ C35.tail) (fun hHeld => ?_)
    clear hK K
    try simp only [List.setIfInBounds_toArray, List.set_cons_zero, List.set_cons_succ]
    refine wpAnyH_listed #[true, true, false, true, true, true, true, false, false, false] (by kernel_rfl) ?_
    refine wpAnyH_ready (rs := [2]) (by kernel_rfl) (by simp) ?_
    refine AllReadyH.cons (o := ⟨some 13, Op.call { callee := Callee.builtin Builtin.append, args := #[Operand.tmp 11, Operand.tmp 12], argTypes := #[25, 25] }, 25, _, _, none⟩) rfl (fun K hK => ?_) AllReadyH.nil
    refine step_own rfl _ _ rfl rfl O36 rfl (HV.out.later C35.low) (by rw [HM.out]; simp; omega) C35.low.size ?_
    intro u41 V38 O40 GO40
    have C39 := C35.grown2 O36 eO36 (Nat.le_refl _) GO40
    rw [List.nil_append] at O40
    clear hHeld
    refine hK.out _ _ (ms1.out _ C39.tail) (fun hHeld => ?_)
    clear hK K
    try simp only [List.setIfInBounds_toArray, List.set_cons_zero, List.set_cons_succ]
    refine wpAnyH_listed #[true, true, true, true, true, true, true, false, false, false] (by kernel_rfl) ?_
    refine wpAnyH_ready (rs := [7]) (by kernel_rfl) (by simp) ?_
    refine AllReadyH.cons (o := ⟨some 18, Op.call { callee := Callee.builtin Builtin.append, args := #[Operand.tmp 13, Operand.tmp 17], argTypes := #[25, 25] }, 25, _, _, none⟩) rfl (fun K hK => ?_) AllReadyH.nil
    refine step_own rfl _ _ rfl rfl O40 rfl (row_one C39) (by rw [HM.out]; simp; omega) C39.low.size ?_
    intro u45 V42 O44 GO44
    have C43 : Has w [] V42 := Has.grown2 (Has.nil C39.low) O40 (by intro p hp; cases hp) (Nat.le_refl _) GO44
    rw [← HA.out] at O44
    clear hHeld
    refine hK.out _ _ (ms1.out _ C43) (fun hHeld => ?_)
    clear hK K
    try simp only [List.setIfInBounds_toArray, List.set_cons_zero, List.set_cons_succ]
    refine wpAnyH_listed #[true, true, true, true, true, true, true, true, false, false] (by kernel_rfl) ?_
    refine wpAnyH_ready (rs := [8]) (by kernel_rfl) (by simp) ?_
    refine AllReadyH.cons (o := ⟨some 19, Op.call { callee := Callee.value (Operand.func 29), args := #[Operand.tmp 18], argTypes := #[25] }, 31, _, _, none⟩) rfl (fun K hK => ?_) AllReadyH.nil
    go_simp
    go_at_call 29
    refine (Has.call C43 (rcheck_any _ _ _ O44.row)).mono ?_
    rintro e V46 ⟨rfl, C47⟩
    go_wp2_with fail
    rw [HR.out]
    clear hHeld
    refine hK.out _ _ (ms1.out _ C47) (fun hHeld => ?_)
    clear hK K
    try simp only [List.setIfInBounds_toArray, List.set_cons_zero, List.set_cons_succ]
    refine wpAnyH_listed #[true, true, true, true, true, true, true, true, true, false] (by kernel_rfl) ?_
    refine wpAnyT_begin [9] (by kernel_rfl) (by kernel_rfl) ?_
    refine wpAnyT_take (oi := ⟨some 2, Op.assign (Operand.tmp 19), 31, _, _, none⟩) (v := .int .i64 (rchkP ps)) rfl (fun _ _ _ h => h) (by rfl) (by assumption) (fun wS hSw => ?_) ?_
    · (try dsimp only at hSw); go_simp
    simp only [Act.put, List.setIfInBounds_toArray, List.set_cons_zero, List.set_cons_succ]
    refine wpAnyT_end ?_
    refine wpAnyH_listed #[true, true, true, true, true, true, true, true, true, true] (by kernel_rfl) ?_
    refine wpAnyH_done (by kernel_rfl) ?_ _
    clear hHeld
    go_wp2_with fail
    go_ret
    exact ⟨rfl, C47.low⟩

end Go.Proofs.Ytmldgjhecoeldaa
