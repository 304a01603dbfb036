/- span.Done. -/
import Derived.Test.YtfcoblapbcdaiaaK
namespace Go.Proofs.Ytfcoblapbcdaiaa
open Go.RowKit Go.Lib
attribute [local go_sem] Oper.semAt_some
theorem enenc_size (es : List Ev) (k : Nat) : (enenc es k).size = 2 := rfl
set_option linter.unusedSimpArgs false in
set_option maxRecDepth 100000 in
set_option maxHeartbeats 8000000 in
theorem done_any (d : Int) (sl : Value) (es : List Ev) (s : Int) (w : World) (hv : Row tE w sl es) :
    Calls Try.prog 15 #[.agg #[.int .i64 d, sl], .int .i64 s] w fun e w' => e = .returned (.int .i64 (doneN s es : Nat)) ∧ Below w.heap.size w w' := by
  have HV := Lib.hid hv
  have HL := Lib.hid (show (es.length : Int) ≤ 9223372036854775807 by obtain ⟨a, c, -, h1, h2, -⟩ := hv; omega)
  clear hv
  have C0 := has2 (w := w) [.int .i64 d, sl] [.int .i64 s] 25 3
  change Has w _ ((w.alloc (.cells #[.int .i64 d, sl] 25)).alloc (.cells #[.int .i64 s] 3)) at C0
  have E0 : ((w.alloc (.cells #[.int .i64 d, sl] 25)).alloc (.cells #[.int .i64 s] 3)).heap.size = w.heap.size + 2 := by simp
  refine (callsIn_wide (n := 5)).1 ?_
  refine callsIn_of_wp_marks Try.func15 rfl trivial ?_ rfl
  simp only [Try.ntmps15, List.size_toArray, List.length_cons, List.length_nil, Nat.reduceAdd, Nat.reduceSub, Array.replicate_succ, Array.replicate_zero, List.push_toArray, List.append_toArray, List.nil_append, List.cons_append]
  gi_wp2_with fail
  generalize (w.alloc (.cells #[.int .i64 d, sl] 25)).alloc (.cells #[.int .i64 s] 3) = w1 at *
  have C1 := C0.push [.int .i64 0] 3
  rw [E0] at C1
  change Has w _ (w1.alloc (.cells #[.int .i64 0] 3)) at C1
  refine wpIn_wide.2 (wp_scope_straight ((wpIn_wide (n := 7)).1 ?_))
  gi_wp2_with fail
  generalize w1.alloc (.cells #[.int .i64 0] 3) = w2 at *
  have k0 := C1.tail.fact (.head _) (i := 0) rfl
  have k1 := C1.tail.fact (.head _) (i := 1) rfl
  simp only at k0 k1
  refine wpIn_label ?_
  gi_wp2_with fail
  refine ⟨trivial, (callsIn_wide.2 (ends_any d sl _)).mono ?_⟩
  rintro e w3 ⟨rfl, rfl⟩
  have C2 := C1.push [.int .i64 d, sl] 25
  change Has w _ (w2.alloc (.cells #[.int .i64 d, sl] 25)) at C2
  generalize w2.alloc (.cells #[.int .i64 d, sl] 25) = w3 at *
  generalize w2.heap.size = B at *
  clear k0 k1 C1 C0
  gi_wp2_with fail
  have hB : B < w3.heap.size := C2.lt0
  have hM : w.heap.size < w3.heap.size := C2.tail.tail.lt0
  refine range_sq (K := es.length) (enc := enenc es) (Lv := fun W => W.cell? ⟨B, 1, none⟩ = some sl ∧ Row tE W sl es) (w0 := w) rfl (enters_of Try.func39 (by kernel_rfl) rfl) (ends_seq _ es sl B w) C2.low (fun _ => rfl)
    (fun k W => Dn s es k ∧ Has w [(B, [.int .i64 d, sl]), (w.heap.size + 2, [.int .i64 (k : Int)]), (w.heap.size, [.int .i64 d, sl]), (w.heap.size + 1, [.int .i64 s])] W)
    (fun c k W => c = .exit 0 ∧ doneN s es = k ∧ Has w [(B, [.int .i64 d, sl]), (w.heap.size + 2, [.int .i64 (k : Int)]), (w.heap.size, [.int .i64 d, sl]), (w.heap.size + 1, [.int .i64 s])] W)
    (fun k a' W => a' = { tmps := #[.agg #[.int .i64 d, sl], .int .i64 s, .pointer (some ⟨w.heap.size, 0, none⟩), .pointer (some ⟨w.heap.size + 1, 0, none⟩), .int .i64 0, .pointer (some ⟨w.heap.size + 2, 0, none⟩), .int .i64 (endA ((es[k]?).getD default).at_), .bool (okA ((es[k]?).getD default).at_), .agg #[.int .i64 d, sl], .func (.func 39) #[] #[.pointer (some ⟨B, 0, none⟩)], .int .i64 (endA ((es[k]?).getD default).at_), .bool (okA ((es[k]?).getD default).at_), undef, undef, undef, undef, undef, undef, undef, undef, undef, undef], defers := [] } ∧ Dn s es k ∧ Has w [(B, [.int .i64 d, sl]), (w.heap.size + 2, [.int .i64 (k : Int)]), (w.heap.size, [.int .i64 d, sl]), (w.heap.size + 1, [.int .i64 s])] W)
    (fun k A W h g => ⟨h.1, h.2.later g⟩) (fun c k A W h g => ⟨h.1, h.2.1, h.2.2.later g⟩) (fun k A h => ⟨h.2.fact (.head _) (i := 1) rfl, HV.out.later h.2.low⟩)
    (fun k A l o o' h hl ho hc => ⟨h.1, h.2.putObj (by omega) ho hc⟩) (fun c k A l o o' h hl ho hc => ⟨h.1, h.2.1, h.2.2.putObj (by omega) ho hc⟩)
    (fun k a' A l o o' h hl ho hc => ⟨h.1, h.2.1, h.2.2.putObj (by omega) ho hc⟩) ⟨Dn.zero s es, C2⟩ ?assign ?body ?done ?stop
  case assign =>
    rintro l k A T hk ⟨hD, hI⟩ hT
    simp only [enenc]
    generalize ((es[k]?).getD default).at_ = at1 at *
    gi_wp2_with fail
    exact hT _ _ (KeepsFrom.refl _ _) ⟨rfl, hD, hI⟩
  case stop =>
    rintro D c k A hD hk ⟨rfl, hn, hI⟩ hK
    have k0 := hI.tail.fact (.head _) (i := 0) rfl
    simp only at k0
    have hn2 := Lib.hid hn
    clear hn
    gi_wp2_with fail
    refine ⟨by simp, .inl ⟨_, _, rfl, run_takeDeferred hK, ?_⟩⟩
    have X3 := hI.putObj (ob' := .deferred none) (by omega) hK rfl
    exact ⟨.int .i64 (k : Int), by simp [results, Try.results15, go_sem], by rw [hn2.out], X3.low⟩
  case done =>
    rintro D A hD ⟨hn, hI⟩ hK
    have k0 := hI.tail.fact (.head _) (i := 0) rfl
    simp only at k0
    have hn2 := Lib.hid (doneN_all hn)
    clear hn
    gi_wp2_with fail
    refine ⟨by simp, .inl ⟨_, _, rfl, run_takeDeferred hK, ?_⟩⟩
    have X3 := hI.putObj (ob' := .deferred none) (by omega) hK rfl
    exact ⟨.int .i64 (es.length : Int), by simp [results, Try.results15, go_sem], by rw [hn2.out], X3.low⟩
  case body =>
    rintro l k a' A hl hr ⟨rfl, hD, hI⟩ hk
    obtain ⟨e0, he0⟩ : ∃ e0, es[k]? = some e0 := ⟨_, List.getElem?_eq_getElem hk⟩
    rw [he0]
    simp only [Option.getD_some]
    have HN := Lib.hid (fun q => Dn.next hD he0 q)
    have HS := Lib.hid (fun q => doneN_stop hD he0 q)
    obtain ⟨hb0, hb1⟩ := endA_bd e0.at_
    have hdn := dnA_end s e0.at_
    clear hD he0
    generalize dnA s e0.at_ = dn at *
    generalize endA e0.at_ = en at *
    generalize okA e0.at_ = ok at *
    have k0 := hI.tail.fact (.head _) (i := 0) rfl
    have k1 := hI.tail.tail.tail.fact (.head _) (i := 0) rfl
    have f0 := hI.tail.free (.head _) (i := 0) rfl
    simp only at k0 k1 f0
    have HW := HL.out
    have ksum : IntKind.i64.wrap ((k : Int) + 1) = ((k + 1 : Nat) : Int) := by rw [IntWalk.i64_in _ (by omega)]; rfl
    clear HW
    cases ok with
    | false =>
      simp only [Bool.false_and] at hdn
      have hs := Lib.hid (HS.out hdn)
      subst hdn
      gi_wp2_with fail
      exact ⟨KeepsFrom.refl _ _, rfl, hs.out, hI⟩
    | true =>
      simp only [Bool.true_and] at hdn
      by_cases hle : en ≤ s
      · rw [decide_eq_true hle] at hdn
        have hs := Lib.hid (HN.out hdn)
        subst hdn
        gi_wp2_with fail
        have X := (hI.swap.set 0 (by simp) (.int .i64 ((k + 1 : Nat) : Int))).swap
        exact ⟨(keeps_set _ _ _), hs.out, X⟩
      · rw [decide_eq_false hle] at hdn
        have hs := Lib.hid (HS.out hdn)
        subst hdn
        gi_wp2_with fail
        exact ⟨KeepsFrom.refl _ _, rfl, hs.out, hI⟩
end Go.Proofs.Ytfcoblapbcdaiaa
