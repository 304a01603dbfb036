/- line.Within. The reference's Within. -/
import Derived.Test.YtkejilomempogaaRSegW
import Derived.Deep.RegionWith
namespace Go.Proofs.Ytkejilomempogaa
open Go.RowKit Go.Lib

/-- Whether something holds for one of the first k. -/
def anyTo (f : Nat → Bool) : Nat → Bool
  | 0 => false
  | k + 1 => anyTo f k || f k
theorem anyTo_no {f : Nat → Bool} {k : Nat} (h : anyTo f k = false) (g : f k = false) : anyTo f (k + 1) = false := by rw [anyTo, h, g]; rfl
theorem anyTo_yes {f : Nat → Bool} {k n : Nat} (g : f k = true) (h : k < n) : true = anyTo f n := by
  induction n with
  | zero => omega
  | succ n ih =>
    rw [anyTo]
    rcases Nat.lt_or_ge k n with h1 | h1
    · rw [← ih h1]; rfl
    · obtain rfl : k = n := by omega
      rw [g, Bool.or_true]
theorem anyTo_iff {f : Nat → Bool} {n : Nat} : anyTo f n = true ↔ ∃ k, k < n ∧ f k = true := by
  constructor
  · intro h
    induction n with
    | zero => cases h
    | succ n ih =>
      rw [anyTo, Bool.or_eq_true] at h
      rcases h with h | h
      · obtain ⟨k, hk, e⟩ := ih h; exact ⟨k, by omega, e⟩
      · exact ⟨n, by omega, h⟩
  · rintro ⟨k, hk, e⟩
    exact (anyTo_yes e hk).symm
def sgw (ps : List (Int × Int)) (p : Int × Int) (n : Int) (k : Nat) : Bool := segW (pt ps k).1 (pt ps k).2 (pt ps (k + 1)).1 (pt ps (k + 1)).2 p.1 p.2 n
def withinP (ps : List (Int × Int)) (p : Int × Int) (n : Int) : Bool := ps.all rtP && (rtP p && anyTo (sgw ps p n) (ps.length - 1))
theorem rt_at {ps : List (Int × Int)} {k : Nat} (h : ps.all rtP = true) (hk : k < ps.length) : inl 16384 (pt ps k).1 (pt ps k).2 = true := by
  have := (List.all_eq_true.1 h) (pt ps k) (List.mem_of_getElem? (at_pt hk))
  exact this
theorem rights_is (v : Value) (ps : List (Int × Int)) (w : World) (hv : RowP w v ps) (r : Bool) (h : ps.all rtP = r) :
    Calls Try.prog 35 #[v] w fun e w' => e = .returned (.bool r) ∧ Below w.heap.size w w' := h ▸ rights_any v ps w hv
theorem fine_is (v : Value) (ps : List (Int × Int)) (w : World) (hv : RowP w v ps) (r : Bool) (h : ps.all rtP = r) :
    Calls Try.prog 37 #[v] w fun e w' => e = .returned (.bool r) ∧ Below w.heap.size w w' := h ▸ fine_any v ps w hv
theorem segw_is (a0 a1 b0 b1 p0 p1 n : Int) (r : Bool) (h : segW a0 a1 b0 b1 p0 p1 n = r) (w : World) (ha : inl 16384 a0 a1 = true) (hb : inl 16384 b0 b1 = true) (hp : inl 16384 p0 p1 = true) (hn : I64 n) :
    Calls Try.prog 49 #[.agg #[.int .i64 a0, .int .i64 a1, .int .i64 b0, .int .i64 b1], .agg #[.int .i64 p0, .int .i64 p1], .int .i64 n] w fun e w' => e = .returned (.bool r) ∧ Below w.heap.size w w' := h ▸ segw_any a0 a1 b0 b1 p0 p1 n w ha hb hp hn
theorem rsegw_is (a0 a1 b0 b1 p0 p1 n : Int) (r : Bool) (h : segW a0 a1 b0 b1 p0 p1 n = r) (w : World) (ha : inl 16384 a0 a1 = true) (hb : inl 16384 b0 b1 = true) (hp : inl 16384 p0 p1 = true) (hn : I64 n) :
    Calls Try.prog 51 #[.agg #[.int .i64 a0, .int .i64 a1], .agg #[.int .i64 b0, .int .i64 b1], .agg #[.int .i64 p0, .int .i64 p1], .int .i64 n] w fun e w' => e = .returned (.bool r) ∧ Below w.heap.size w w' := h ▸ rsegw_any a0 a1 b0 b1 p0 p1 n w ha hb hp hn
/-- What segments hands back, with its block. -/
theorem segs_has {w w1 : World} {bs : List (Nat × List Value)} {v : Value} {ps : List (Int × Int)} (h : Has w bs w1) (hv : RowP w1 v ps) :
    Calls Try.prog 39 #[v] w1 fun e w' => ∃ B, e = .returned (.func (.func 75) #[] #[.pointer (some ⟨B, 0, none⟩)]) ∧ Has w ((B, [v]) :: bs) w' := by
  obtain ⟨a, cap, rfl, -⟩ := hv
  refine (segments_any _ _ _ _).mono ?_
  rintro e w' ⟨rfl, rfl⟩
  exact ⟨_, rfl, h.push [_] 23⟩

attribute [local go_sem] Oper.semAt_some
set_option linter.unusedSimpArgs false in
set_option maxRecDepth 100000 in
set_option maxHeartbeats 8000000 in
theorem lwithin_any (v : Value) (ps : List (Int × Int)) (p0 p1 n : Int) (w : World) (hv : RowP w v ps) (hn : I64 n) :
    Calls Try.prog 23 #[v, .agg #[.int .i64 p0, .int .i64 p1], .int .i64 n] w fun e w' => e = .returned (.bool (withinP ps (p0, p1) n)) ∧ Below w.heap.size w w' := by
  have HV := Lib.hid hv
  clear hv
  have C0 := has3 (w := w) [.int .i64 p0, .int .i64 p1] [.int .i64 n] [.bool false] 36 3 4
  cases h1 : ps.all rtP
  · have HR := Lib.hid (show withinP ps (p0, p1) n = false by unfold withinP; rw [h1]; rfl)
    have H1 := Lib.hid h1
    clear h1
    go_enter Try.func23, Try.ntmps23
    go_upto_region 1 with fail
    change Has w _ (((w.alloc (.cells #[.int .i64 p0, .int .i64 p1] 36)).alloc (.cells #[.int .i64 n] 3)).alloc (.cells #[.bool false] 4)) at C0
    generalize ((w.alloc (.cells #[.int .i64 p0, .int .i64 p1] 36)).alloc (.cells #[.int .i64 n] 3)).alloc (.cells #[.bool false] 4) = w1 at *
    go_wp2_with fail
    refine (Has.call C0 (rights_is v ps _ (HV.out.later C0.low) _ H1.out)).mono ?_
    rintro e w2 ⟨rfl, C1⟩
    have k0 := C1.tail.tail.fact (.head _) (i := 0) rfl
    have f0 := C1.tail.tail.free (.head _) (i := 0) rfl
    go_wp2_with fail
    have C2 := C1.third.set 0 (by simp) (.bool false)
    change Has w _ (w2.setCell ⟨w.heap.size + 1 + 1, 0, none⟩ (.bool false)) at C2
    generalize w2.setCell ⟨w.heap.size + 1 + 1, 0, none⟩ (.bool false) = w3 at *
    have d0 : w3.cell? ⟨w.heap.size + 1 + 1, 0, none⟩ = some (.bool false) := C2.fact (.head _) (i := 0) rfl
    exact bodyPost_ret (v := .bool false) (by simp [results, Try.results23, go_sem, d0]) rfl ⟨by rw [HR.out], C2.low⟩
  · cases h2 : inl 16384 p0 p1
    · have HR := Lib.hid (show withinP ps (p0, p1) n = false by unfold withinP; rw [h1, show rtP (p0, p1) = false from h2]; rfl)
      have H1 := Lib.hid h1
      have H2 := Lib.hid (show [(p0, p1)].all rtP = false by simp [rtP, h2])
      clear h1 h2
      go_enter Try.func23, Try.ntmps23
      go_upto_region 1 with fail
      change Has w _ (((w.alloc (.cells #[.int .i64 p0, .int .i64 p1] 36)).alloc (.cells #[.int .i64 n] 3)).alloc (.cells #[.bool false] 4)) at C0
      generalize ((w.alloc (.cells #[.int .i64 p0, .int .i64 p1] 36)).alloc (.cells #[.int .i64 n] 3)).alloc (.cells #[.bool false] 4) = w1 at *
      go_wp2_with fail
      refine (Has.call C0 (rights_is v ps _ (HV.out.later C0.low) _ H1.out)).mono ?_
      rintro e w2 ⟨rfl, C1⟩
      obtain ⟨k1, k2⟩ := C1.pt
      obtain ⟨C2, R2⟩ := one_row C1 rfl [(p0, p1)] (by simp)
      go_wp2_with fail
      refine (Has.call C2 (rights_is _ _ _ R2 _ H2.out)).mono ?_
      rintro e w3 ⟨rfl, C3⟩
      clear k1 k2 C1 C2 R2
      have k0 := C3.tail.tail.tail.fact (.head _) (i := 0) rfl
      have f0 := C3.tail.tail.tail.free (.head _) (i := 0) rfl
      go_wp2_with fail
      have C4 := C3.tail.third.set 0 (by simp) (.bool false)
      change Has w _ (w3.setCell ⟨w.heap.size + 1 + 1, 0, none⟩ (.bool false)) at C4
      generalize w3.setCell ⟨w.heap.size + 1 + 1, 0, none⟩ (.bool false) = w4 at *
      have d0 : w4.cell? ⟨w.heap.size + 1 + 1, 0, none⟩ = some (.bool false) := C4.fact (.head _) (i := 0) rfl
      exact bodyPost_ret (v := .bool false) (by simp [results, Try.results23, go_sem, d0]) rfl ⟨by rw [HR.out], C4.low⟩
    · obtain ⟨r, hr⟩ : ∃ r, anyTo (sgw ps (p0, p1) n) (ps.length - 1) = r := ⟨_, rfl⟩
      have HR := Lib.hid (show withinP ps (p0, p1) n = r by unfold withinP; rw [h1, show rtP (p0, p1) = true from h2, hr]; rfl)
      have H1 := Lib.hid h1
      have HP := Lib.hid h2
      have H2 := Lib.hid (show [(p0, p1)].all rtP = true by simp [rtP, h2])
      have HF := Lib.hid hr
      clear h1 h2 hr
      refine (callsIn_wide (n := 5)).1 ?_
      refine callsIn_of_wp_marks Try.func23 rfl trivial ?_ rfl
      simp only [Try.ntmps23, List.size_toArray, List.length_cons, List.length_nil, Nat.reduceAdd, Nat.reduceSub, Array.replicate_succ, Array.replicate_zero, List.push_toArray, List.append_toArray, List.nil_append, List.cons_append]
      gi_wp2_with fail
      change Has w _ (((w.alloc (.cells #[.int .i64 p0, .int .i64 p1] 36)).alloc (.cells #[.int .i64 n] 3)).alloc (.cells #[.bool false] 4)) at C0
      generalize ((w.alloc (.cells #[.int .i64 p0, .int .i64 p1] 36)).alloc (.cells #[.int .i64 n] 3)).alloc (.cells #[.bool false] 4) = w1 at *
      refine ⟨trivial, (callsIn_wide.2 (Has.call C0 (rights_is v ps _ (HV.out.later C0.low) _ H1.out))).mono ?_⟩
      rintro e w2 ⟨rfl, C1⟩
      obtain ⟨k1, k2⟩ := C1.pt
      obtain ⟨C2, R2⟩ := one_row C1 rfl [(p0, p1)] (by simp)
      gi_wp2_with fail
      refine ⟨trivial, (callsIn_wide.2 (Has.call C2 (rights_is _ _ _ R2 _ H2.out))).mono ?_⟩
      rintro e w3 ⟨rfl, C3⟩
      clear k1 k2 C1 C2 R2
      gi_wp2_with fail
      refine ⟨trivial, (callsIn_wide.2 (segs_has C3.tail (HV.out.later C3.low))).mono ?_⟩
      rintro e w4 ⟨B, rfl, C4⟩
      clear C3
      gi_wp2_with fail
      have hB : B < w4.heap.size := C4.lt0
      have hM : w.heap.size + 2 < w4.heap.size := C4.tail.tail.tail.lt0
      refine range_sq (K := ps.length - 1) (enc := fun k => #[.int .i64 k, .agg #[.int .i64 (pt ps k).1, .int .i64 (pt ps k).2, .int .i64 (pt ps (k + 1)).1, .int .i64 (pt ps (k + 1)).2]]) (Lv := fun W => W.cell? ⟨B, 0, none⟩ = some v ∧ RowP W v ps) (w0 := w) rfl (enters_of Try.func75 (by kernel_rfl) rfl) (seg_seq _ ps v B w) C4.low (fun _ => rfl)
        (fun k W => Has w [(B, [v]), (w.heap.size, [.int .i64 p0, .int .i64 p1]), (w.heap.size + 1, [.int .i64 n]), (w.heap.size + 2, [.bool false])] W ∧ Hid (anyTo (sgw ps (p0, p1) n) k = false))
        (fun c k W => c = .ret ∧ Has w [(w.heap.size + 2, [.bool true]), (B, [v]), (w.heap.size, [.int .i64 p0, .int .i64 p1]), (w.heap.size + 1, [.int .i64 n])] W ∧ Hid (sgw ps (p0, p1) n k = true))
        (fun k a' W => ∃ g, a' = { tmps := #[v, .agg #[.int .i64 p0, .int .i64 p1], .int .i64 n, undef, .pointer (some ⟨w.heap.size, 0, none⟩), .pointer (some ⟨w.heap.size + 1, 0, none⟩), .pointer (some ⟨w.heap.size + 1 + 1, 0, none⟩), undef, .pointer (some ⟨g, 0, none⟩), v, .bool true, .bool false, .bool false, .agg #[.int .i64 p0, .int .i64 p1], .slice (some ⟨w2.heap.size, 0, none⟩) 1 1, .bool true, .bool false, .bool false, v, .func (.func 75) #[] #[.pointer (some ⟨B, 0, none⟩)], .int .i64 k, .agg #[.int .i64 (pt ps k).1, .int .i64 (pt ps k).2, .int .i64 (pt ps (k + 1)).1, .int .i64 (pt ps (k + 1)).2], undef, undef, undef, undef], defers := [] } ∧ Has w [(g, [.int .i64 (pt ps k).1, .int .i64 (pt ps k).2, .int .i64 (pt ps (k + 1)).1, .int .i64 (pt ps (k + 1)).2]), (B, [v]), (w.heap.size, [.int .i64 p0, .int .i64 p1]), (w.heap.size + 1, [.int .i64 n]), (w.heap.size + 2, [.bool false])] W ∧ Hid (anyTo (sgw ps (p0, p1) n) k = false))
        (fun k A W h g => ⟨h.1.later g, h.2⟩) (fun c k A W h g => ⟨h.1, h.2.1.later g, h.2.2⟩) (fun k A h => ⟨h.1.fact (.head _) (i := 0) rfl, HV.out.later h.1.low⟩)
        (fun k A l o o' h hl ho hc => ⟨h.1.putObj (by omega) ho hc, h.2⟩) (fun c k A l o o' h hl ho hc => ⟨h.1, h.2.1.putObj (by omega) ho hc, h.2.2⟩)
        (fun k a' A l o o' h hl ho hc => by obtain ⟨g, e, hh, hx⟩ := h; exact ⟨g, e, hh.putObj (by omega) ho hc, hx⟩) ⟨C4, Lib.hid rfl⟩ ?assign ?body ?done ?stop
      case assign =>
        rintro l k A T hk ⟨hI, hX⟩ hT
        generalize (pt ps k).1 = x0 at *
        generalize (pt ps k).2 = x1 at *
        generalize (pt ps (k + 1)).1 = x2 at *
        generalize (pt ps (k + 1)).2 = x3 at *
        gi_wp2_with fail
        have E := (HK.start (B := w4.heap.size) hI).push [.int .i64 x0, .int .i64 x1, .int .i64 x2, .int .i64 x3] 64
        exact hT _ _ E.k ⟨_, rfl, E.h, hX⟩
      case body =>
        rintro l k a' A hl hr ⟨g, rfl, hI, hX⟩ hk
        have hx := rt_at H1.out (k := k) (by omega)
        have hy := rt_at H1.out (k := k + 1) (by omega)
        obtain ⟨z, hz⟩ : ∃ z, sgw ps (p0, p1) n k = z := ⟨_, rfl⟩
        have HZ := Lib.hid hz
        unfold sgw at hz
        simp only at hz
        generalize (pt ps k).1 = x0 at *
        generalize (pt ps k).2 = x1 at *
        generalize (pt ps (k + 1)).1 = x2 at *
        generalize (pt ps (k + 1)).2 = x3 at *
        have HX := Lib.hid hx
        have HY := Lib.hid hy
        have HZZ := Lib.hid hz
        clear hx hy hz
        obtain ⟨k0, k1, k2, k3⟩ := hI.one4
        obtain ⟨k4, k5⟩ := hI.tail.tail.pt
        have k6 := hI.tail.tail.tail.fact (.head _) (i := 0) rfl
        gi_wp2_with fail
        refine ⟨trivial, (round_call (HK.call (HK.start (B := w4.heap.size) hI) (segw_is _ _ _ _ _ _ _ _ HZZ.out _ HX.out HY.out HP.out hn))).mono ?_⟩
        rintro e A1 ⟨rfl, E⟩
        clear k0 k1 k2 k3 k4 k5 k6
        cases z
        · gi_wp2_with fail
          exact ⟨E.k, E.h.tail, Lib.hid (anyTo_no hX.out HZ.out)⟩
        · have k0 := E.h.tail.tail.tail.tail.fact (.head _) (i := 0) rfl
          have f0 := E.h.tail.tail.tail.tail.free (.head _) (i := 0) rfl
          gi_wp2_with fail
          have E2 := (HK.perm E.tail ((List.Perm.cons _ ((List.Perm.cons _ (.swap _ _ _)).trans (.swap _ _ _))).trans (.swap _ _ _))).set 0 (by simp) (.bool true)
          exact ⟨E2.k, rfl, E2.h, HZ⟩
      case done =>
        rintro D A hD ⟨hI, hX⟩ hK
        have hr : r = false := HF.out.symm.trans hX.out
        subst hr
        have k0 := hI.tail.tail.tail.fact (.head _) (i := 0) rfl
        have f0 := hI.tail.tail.tail.free (.head _) (i := 0) rfl
        gi_wp2_with fail
        have X2 := (hI.tail.third.set 0 (by simp) (.bool false))
        have hK2 := (keeps_set (B := 0) A ⟨w.heap.size + 2, 0, none⟩ (.bool false)).same D _ (Nat.zero_le _) hK rfl
        change Has w _ (A.setCell ⟨w.heap.size + 1 + 1, 0, none⟩ (.bool false)) at X2
        change (A.setCell ⟨w.heap.size + 1 + 1, 0, none⟩ (.bool false)).heap[D]? = _ at hK2
        generalize A.setCell ⟨w.heap.size + 1 + 1, 0, none⟩ (.bool false) = A2 at *
        refine ⟨by simp, .inl ⟨_, _, rfl, run_takeDeferred hK2, ?_⟩⟩
        have X3 := X2.putObj (ob' := .deferred none) (by omega) hK2 rfl
        have d0 : (A2.putObj D (.deferred none)).cell? ⟨w.heap.size + 1 + 1, 0, none⟩ = some (.bool false) := X3.fact (.head _) (i := 0) rfl
        exact ⟨.bool false, by simp [results, Try.results23, go_sem, d0], by rw [HR.out], X3.low⟩
      case stop =>
        rintro D c k A hD hk ⟨rfl, hI, hX⟩ hK
        have hr : true = r := (anyTo_yes hX.out hk).trans HF.out
        subst hr
        gi_wp2_with fail
        refine ⟨by simp, .inl ⟨_, _, rfl, run_takeDeferred hK, ?_⟩⟩
        have X3 := hI.putObj (ob' := .deferred none) (by omega) hK rfl
        have d0 : (A.putObj D (.deferred none)).cell? ⟨w.heap.size + 1 + 1, 0, none⟩ = some (.bool true) := X3.fact (.head _) (i := 0) rfl
        exact ⟨.bool true, by simp [results, Try.results23, go_sem, d0], by rw [HR.out], X3.low⟩

end Go.Proofs.Ytkejilomempogaa

namespace Go.Proofs.Ytkejilomempogaa
open Go.RowKit Go.Lib

set_option linter.unusedSimpArgs false in
set_option maxRecDepth 100000 in
set_option maxHeartbeats 8000000 in
theorem rwithin_any (v : Value) (ps : List (Int × Int)) (p0 p1 n : Int) (w : World) (hv : RowP w v ps) (hn : I64 n) :
    Calls Try.prog 24 #[v, .agg #[.int .i64 p0, .int .i64 p1], .int .i64 n] w fun e w' => e = .returned (.bool (withinP ps (p0, p1) n)) ∧ Below w.heap.size w w' := by
  have hv0 := hv
  obtain ⟨a, cap, rfl, hc1, hc2, -⟩ := hv0
  have C0 := has1 (w := w) [.int .i64 p0, .int .i64 p1] 36
  cases h2 : inl 16384 p0 p1
  · have HR := Lib.hid (show withinP ps (p0, p1) n = false by unfold withinP; rw [show rtP (p0, p1) = false from h2, Bool.false_and, Bool.and_false])
    have H2 := Lib.hid h2
    clear h2
    go_enter Try.func24, Try.ntmps24
    go_upto_region 1 with fail
    change Has w _ (w.alloc (.cells #[.int .i64 p0, .int .i64 p1] 36)) at C0
    generalize w.alloc (.cells #[.int .i64 p0, .int .i64 p1] 36) = w1 at *
    obtain ⟨k0, k1⟩ := C0.pt
    go_wp2_with fail
    refine (Has.call C0 (rpright_is _ _ _ H2.out _)).mono ?_
    rintro e w2 ⟨rfl, C1⟩
    clear k0 k1
    go_wp2_with fail
    go_ret
    exact ⟨ret_b HR.out.symm, C1.low⟩
  · cases h1 : ps.all rtP
    · have HR := Lib.hid (show withinP ps (p0, p1) n = false by unfold withinP; rw [h1]; rfl)
      have H1 := Lib.hid h1
      have H2 := Lib.hid h2
      have HV := Lib.hid hv
      clear h1 h2 hv
      go_enter Try.func24, Try.ntmps24
      go_upto_region 1 with fail
      change Has w _ (w.alloc (.cells #[.int .i64 p0, .int .i64 p1] 36)) at C0
      generalize w.alloc (.cells #[.int .i64 p0, .int .i64 p1] 36) = w1 at *
      obtain ⟨k0, k1⟩ := C0.pt
      go_wp2_with fail
      refine (Has.call C0 (rpright_is _ _ _ H2.out _)).mono ?_
      rintro e w2 ⟨rfl, C1⟩
      clear k0 k1
      go_wp2_with fail
      refine (Has.call C1 (fine_is _ ps _ (HV.out.later C1.low) _ H1.out)).mono ?_
      rintro e w3 ⟨rfl, C2⟩
      go_wp2_with fail
      go_ret
      exact ⟨ret_b HR.out.symm, C2.low⟩
    · obtain ⟨r, hr⟩ : ∃ r, anyTo (sgw ps (p0, p1) n) (ps.length - 1) = r := ⟨_, rfl⟩
      have HR := Lib.hid (show withinP ps (p0, p1) n = r by unfold withinP; rw [h1, show rtP (p0, p1) = true from h2, hr]; rfl)
      obtain ⟨m, hm⟩ : ∃ m, ps.length = m := ⟨_, rfl⟩
      rw [hm] at hc1 hv hr ⊢
      have HM := Lib.hid hm
      have HV := Lib.hid hv
      have H1 := Lib.hid h1
      have HP := Lib.hid h2
      have HF := Lib.hid hr
      clear h1 h2 hr hm hv
      go_enter Try.func24, Try.ntmps24
      go_upto_region 1 with fail
      change Has w _ (w.alloc (.cells #[.int .i64 p0, .int .i64 p1] 36)) at C0
      generalize w.alloc (.cells #[.int .i64 p0, .int .i64 p1] 36) = w1 at *
      obtain ⟨k0, k1⟩ := C0.pt
      go_wp2_with fail
      refine (Has.call C0 (rpright_is _ _ _ HP.out _)).mono ?_
      rintro e w2 ⟨rfl, C1⟩
      clear k0 k1 C0
      go_wp2_with fail
      refine (Has.call C1 (fine_is _ ps _ (HV.out.later C1.low) _ H1.out)).mono ?_
      rintro e w3 ⟨rfl, C2⟩
      clear C1
      go_wp2_with fail
      go_loopw [8] (fun i wr => ∃ k : Nat, k ≤ m ∧ (k = 0 ∨ k + 1 ≤ m) ∧ i = .int .i64 k ∧ Has w [(w.heap.size, [.int .i64 p0, .int .i64 p1])] wr ∧ Hid (anyTo (sgw ps (p0, p1) n) k = false)) (fun i _ => m - (RowKit.intOf i).toNat)
      case atStart => exact ⟨0, Nat.zero_le _, .inl rfl, rfl, C2, Lib.hid rfl⟩
      case round =>
        clear C2
        obtain ⟨k, hk, hk2, rfl, hI, hX⟩ := hrel
        have ks : IntKind.i64.wrap ((k : Int) + 1) = ((k + 1 : Nat) : Int) := by rw [IntWalk.i64_in _ (by omega)]; rfl
        by_cases hlt : k + 1 < m
        · have hR := HV.out.later hI.low
          obtain ⟨b, o, rfl, -⟩ := hR.spot (by rw [HM.out]; omega)
          have hx := rt_at H1.out (k := k) (by rw [HM.out]; omega)
          have hy := rt_at H1.out (k := k + 1) (by rw [HM.out]; omega)
          have e0 : ps[k]? = some ((pt ps k).1, (pt ps k).2) := at_pt (by rw [HM.out]; omega)
          have e1 : ps[k + 1]? = some ((pt ps (k + 1)).1, (pt ps (k + 1)).2) := at_pt (by rw [HM.out]; omega)
          obtain ⟨z, hz⟩ : ∃ z, sgw ps (p0, p1) n k = z := ⟨_, rfl⟩
          have HZ := Lib.hid hz
          unfold sgw at hz
          simp only at hz
          generalize (pt ps k).1 = x0 at *
          generalize (pt ps k).2 = x1 at *
          generalize (pt ps (k + 1)).1 = x2 at *
          generalize (pt ps (k + 1)).2 = x3 at *
          have HX := Lib.hid hx
          have HY := Lib.hid hy
          have HZZ := Lib.hid hz
          have HX0 := Lib.hid e0
          have HX1 := Lib.hid e1
          clear hx hy hz hR e0 e1
          have b1 : (k : Int) < m := by omega
          have b3 : (k : Int) + 1 < m := by omega
          have b4 : (0 : Int) ≤ (k : Int) + 1 := by omega
          have b5 : ((k : Int) + 1).toNat = k + 1 := by omega
          have b6 : (0 : Int) ≤ k := by omega
          have ms1 := Lib.hid (show ∀ w', Has w [(w.heap.size, [.int .i64 p0, .int .i64 p1])] w' → (w'.cell? ⟨b, o + k * 2, none⟩ = some (.int .i64 x0) ∧ w'.cell? ⟨b, o + k * 2 + 1, none⟩ = some (.int .i64 x1) ∧ w'.cell? ⟨b, o + (k + 1) * 2, none⟩ = some (.int .i64 x2) ∧ w'.cell? ⟨b, o + (k + 1) * 2 + 1, none⟩ = some (.int .i64 x3) ∧ w'.cell? ⟨w.heap.size, 0, none⟩ = some (.int .i64 p0) ∧ w'.cell? ⟨w.heap.size, 1, none⟩ = some (.int .i64 p1)) ∧ Has w [(w.heap.size, [.int .i64 p0, .int .i64 p1])] w' from fun w' h => by
            have hRb := HV.out.later h.low
            exact ⟨⟨(hRb.cells HX0.out).1, (hRb.cells HX0.out).2, (hRb.cells HX1.out).1, (hRb.cells HX1.out).2, h.fact (.head _) (i := 0) rfl, h.fact (.head _) (i := 1) rfl⟩, h⟩)
          go_wp2_with fail
          refine wp_region_held_drew (S := (fun w' => (w'.cell? ⟨b, o + k * 2, none⟩ = some (.int .i64 x0) ∧ w'.cell? ⟨b, o + k * 2 + 1, none⟩ = some (.int .i64 x1) ∧ w'.cell? ⟨b, o + (k + 1) * 2, none⟩ = some (.int .i64 x2) ∧ w'.cell? ⟨b, o + (k + 1) * 2 + 1, none⟩ = some (.int .i64 x3) ∧ w'.cell? ⟨w.heap.size, 0, none⟩ = some (.int .i64 p0) ∧ w'.cell? ⟨w.heap.size, 1, none⟩ = some (.int .i64 p1)) ∧ Has w [(w.heap.size, [.int .i64 p0, .int .i64 p1])] w')) (by kernel_rfl) (ms1.out _ hI.drew) (fun hHeld => ?_)
          refine wpAnyT_begin [0, 1, 2, 3, 4, 5, 6, 7, 8, 9, 10] (by kernel_rfl) (by kernel_rfl) ?_
          refine wpAnyT_take (oi := ⟨some 25, Op.move (Operand.tmp 0), 23, _, _, none⟩) (v := .slice (some ⟨b, o, none⟩) m cap) rfl (fun _ _ _ h => h) (by rfl) (by assumption) (fun wS hSw => ?_) ?_
          · (try dsimp only at hSw); go_simp
          simp only [Act.put, List.setIfInBounds_toArray, List.set_cons_zero, List.set_cons_succ]
          refine wpAnyT_take (oi := ⟨some 26, Op.move (Operand.tmp 8), 3, _, _, none⟩) (v := .int .i64 k) rfl (fun _ _ _ h => h) (by rfl) (by assumption) (fun wS hSw => ?_) ?_
          · (try dsimp only at hSw); go_simp
          simp only [Act.put, List.setIfInBounds_toArray, List.set_cons_zero, List.set_cons_succ]
          refine wpAnyT_take (oi := ⟨some 27, Op.indexAddr 23 (Operand.tmp 25) (Operand.tmp 26), 0, _, _, none⟩) (v := .pointer (some ⟨b, o + k * 2, none⟩)) rfl (fun _ _ _ h => h) (by rfl) (by assumption) (fun wS hSw => ?_) ?_
          · (try dsimp only at hSw); go_simp
          simp only [Act.put, List.setIfInBounds_toArray, List.set_cons_zero, List.set_cons_succ]
          refine wpAnyT_take (oi := ⟨some 28, Op.load 36 (Operand.tmp 27), 36, _, _, none⟩) (v := .agg #[.int .i64 x0, .int .i64 x1]) rfl (fun _ _ _ h => h) (by rfl) (by assumption) (fun wS hSw => ?_) ?_
          · (try dsimp only at hSw); go_simp
          simp only [Act.put, List.setIfInBounds_toArray, List.set_cons_zero, List.set_cons_succ]
          refine wpAnyT_take (oi := ⟨some 29, Op.move (Operand.tmp 0), 23, _, _, none⟩) (v := .slice (some ⟨b, o, none⟩) m cap) rfl (fun _ _ _ h => h) (by rfl) (by assumption) (fun wS hSw => ?_) ?_
          · (try dsimp only at hSw); go_simp
          simp only [Act.put, List.setIfInBounds_toArray, List.set_cons_zero, List.set_cons_succ]
          refine wpAnyT_take (oi := ⟨some 30, Op.move (Operand.tmp 8), 3, _, _, none⟩) (v := .int .i64 k) rfl (fun _ _ _ h => h) (by rfl) (by assumption) (fun wS hSw => ?_) ?_
          · (try dsimp only at hSw); go_simp
          simp only [Act.put, List.setIfInBounds_toArray, List.set_cons_zero, List.set_cons_succ]
          refine wpAnyT_take (oi := ⟨some 31, Op.binOp BinOp.add 3 (Operand.tmp 30) (Operand.const (Value.int IntKind.i64 1)) 3, 3, _, _, none⟩) (v := .int .i64 ((k : Int) + 1)) rfl (fun _ _ _ h => h) (by rfl) (by assumption) (fun wS hSw => ?_) ?_
          · (try dsimp only at hSw); go_simp
          simp only [Act.put, List.setIfInBounds_toArray, List.set_cons_zero, List.set_cons_succ]
          refine wpAnyT_take (oi := ⟨some 32, Op.indexAddr 23 (Operand.tmp 29) (Operand.tmp 31), 0, _, _, none⟩) (v := .pointer (some ⟨b, o + (k + 1) * 2, none⟩)) rfl (fun _ _ _ h => h) (by rfl) (by assumption) (fun wS hSw => ?_) ?_
          · (try dsimp only at hSw); go_simp
          simp only [Act.put, List.setIfInBounds_toArray, List.set_cons_zero, List.set_cons_succ]
          refine wpAnyT_take (oi := ⟨some 33, Op.load 36 (Operand.tmp 32), 36, _, _, none⟩) (v := .agg #[.int .i64 x2, .int .i64 x3]) rfl (fun _ _ _ h => h) (by rfl) (by assumption) (fun wS hSw => ?_) ?_
          · (try dsimp only at hSw); go_simp
          simp only [Act.put, List.setIfInBounds_toArray, List.set_cons_zero, List.set_cons_succ]
          refine wpAnyT_take (oi := ⟨some 34, Op.load 36 (Operand.tmp 4), 36, _, _, none⟩) (v := .agg #[.int .i64 p0, .int .i64 p1]) rfl (fun _ _ _ h => h) (by rfl) (by assumption) (fun wS hSw => ?_) ?_
          · (try dsimp only at hSw); go_simp
          simp only [Act.put, List.setIfInBounds_toArray, List.set_cons_zero, List.set_cons_succ]
          refine wpAnyT_take (oi := ⟨some 35, Op.move (Operand.tmp 2), 3, _, _, none⟩) (v := .int .i64 n) rfl (fun _ _ _ h => h) (by rfl) (by assumption) (fun wS hSw => ?_) ?_
          · (try dsimp only at hSw); go_simp
          simp only [Act.put, List.setIfInBounds_toArray, List.set_cons_zero, List.set_cons_succ]
          refine wpAnyT_end ?_
          refine wpAnyH_listed #[true, true, true, true, true, true, true, true, true, true, true, false] (by kernel_rfl) ?_
          refine wpAnyH_ready (rs := [11]) (by kernel_rfl) (by simp) ?_
          refine AllReadyH.cons (o := ⟨some 36, Op.call { callee := Callee.value (Operand.func 51), args := #[Operand.tmp 28, Operand.tmp 33, Operand.tmp 34, Operand.tmp 35], argTypes := #[36, 36, 36, 3] }, 4, _, _, none⟩) rfl (fun K hK => ?_) AllReadyH.nil
          go_simp
          go_at_call 51
          refine (Has.call hI.drew (rsegw_is _ _ _ _ _ _ _ _ HZZ.out _ HX.out HY.out HP.out hn)).mono ?_
          rintro e A1 ⟨rfl, E⟩
          go_wp2_with fail
          clear hHeld
          refine hK.out _ _ (ms1.out _ E) (fun hHeld => ?_)
          clear hK K
          try simp only [List.setIfInBounds_toArray, List.set_cons_zero, List.set_cons_succ]
          refine wpAnyH_listed #[true, true, true, true, true, true, true, true, true, true, true, true] (by kernel_rfl) ?_
          refine wpAnyH_done (by kernel_rfl) ?_ _
          clear hHeld
          cases z
          · go_wp2_with fail
            go_roundw
            case rel => exact ⟨k + 1, by omega, .inr (by omega), by go_num, E, Lib.hid (anyTo_no hX.out HZ.out)⟩
            case measure => simp [RowKit.intOf]; omega
          · go_wp2_with fail
            go_ret
            exact ⟨ret_b ((anyTo_yes HZ.out (show k < m - 1 by omega)).trans (HF.out.trans HR.out.symm)), E.low⟩
        · have hkm : k = m - 1 := by omega
          go_wp2_with fail
          go_ret
          exact ⟨ret_b (by rw [HR.out, ← HF.out, ← hkm, hX.out]), hI.low⟩

end Go.Proofs.Ytkejilomempogaa
