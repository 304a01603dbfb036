/- before of the reference. -/
import Derived.Test.YtiliommilcifeaaA15
import Derived.Test.YtiliommilcifeaaA5
import Derived.Test.YtiliommilcifeaaA8
namespace Go.Proofs.Ytiliommilcifeaa
open Go.RowKit Go.Lib Go.Sort

theorem ltP_w {a b : Pl} (h : ¬ a.w = b.w) : decide (a.w > b.w) = ltP a b := by
  unfold ltP cmpK Pl.key
  rw [if_neg h, Bool.eq_iff_iff]
  simp only [decide_eq_true_eq, cmpI_neg]
theorem ltP_n {a b : Pl} (h : a.w = b.w) (g : ¬ a.nm = b.nm) : lessN a.nm b.nm = ltP a b := by
  unfold ltP cmpK Pl.key lessN
  rw [if_pos h, if_neg (fun q => g (cmpN_zero q))]
theorem ltP_i {a b : Pl} (h : a.w = b.w) (g : a.nm = b.nm) : decide (a.id < b.id) = ltP a b := by
  unfold ltP cmpK Pl.key
  rw [if_pos h, if_pos (by simp only [g]; exact cmpN_refl _), Bool.eq_iff_iff]
  simp only [decide_eq_true_eq, cmpI_neg]
set_option maxRecDepth 100000 in
set_option maxHeartbeats 4000000 in
theorem before_any (a b : Pl) (ha : Fits a.nm) (hb : Fits b.nm) (w : World) : Calls Try.prog 36 #[.agg a.cells.toArray, .agg b.cells.toArray] w fun e w' => e = .returned (.bool (ltP a b)) ∧ Grows w w' := by
  have hH : Has w [(w.heap.size, a.cells), (w.heap.size + 1, b.cells)] ((w.alloc (.cells a.cells.toArray 36)).alloc (.cells b.cells.toArray 36)) := has2 _ _ 36 36
  have HG := Lib.hid hH.low
  have HN := Lib.hid (rlessb_any a.nm b.nm ha hb)
  have HW := Lib.hid (@ltP_w a b)
  have HNm := Lib.hid (@ltP_n a b)
  have HI := Lib.hid (@ltP_i a b)
  generalize ltP a b = r at *
  obtain ⟨id, px, py, pc, pn, pw, pd⟩ := a
  obtain ⟨id', px', py', pc', pn', pw', pd'⟩ := b
  simp only [] at HN HW HNm HI
  simp only [Pl.cells] at hH HG ⊢
  unfold str at *
  have c0 := hH.fact (.head _) (i := 0) rfl
  have c4 := hH.fact (.head _) (i := 4) rfl
  have c5 := hH.fact (.head _) (i := 5) rfl
  have d0 := hH.tail.fact (.head _) (i := 0) rfl
  have d4 := hH.tail.fact (.head _) (i := 4) rfl
  have d5 := hH.tail.fact (.head _) (i := 5) rfl
  simp only [] at c0 c4 c5 d0 d4 d5
  by_cases h : pw = pw'
  · have z0 : (pw != pw') = false := by simpa using h
    by_cases g : pn = pn'
    · have z1 : (pn == pn') = true := by rw [g]; simp
      have HE := Lib.hid (HI.out h g)
      clear HW HNm HI HN h g
      go_enter Try.func36, Try.ntmps36
      go_wp2_with fail
      go_ret
      exact ⟨ret_b HE.out, HG.out⟩
    · have z1 : (pn == pn') = false := by simpa using g
      have HE := Lib.hid (HNm.out h g)
      rw [HE.out] at HN
      clear HW HNm HI h g
      go_enter Try.func36, Try.ntmps36
      go_wp2_with fail
      refine (HN.out _).mono ?_
      rintro e w2 ⟨rfl, g2⟩
      go_wp2_with fail
      go_ret
      exact ⟨rfl, Grows.then HG.out g2⟩
  · have z0 : (pw != pw') = true := by simpa using h
    have HE := Lib.hid (HW.out h)
    clear HW HNm HI HN h
    go_enter Try.func36, Try.ntmps36
    go_wp2_with fail
    go_ret
    exact ⟨ret_b HE.out, HG.out⟩
end Go.Proofs.Ytiliommilcifeaa
