/- point.Box. -/
import Derived.Test.YtoehojopoajcaaaEnds
namespace Go.Proofs.Ytoehojopoajcaaa
open Go.RowKit Go.Lib

/-- The smallest rectangle with all points. -/
def bxo (ps : List (Int × Int)) : (Int × Int) × (Int × Int) := if ps.length = 0 then ((0, 0), (0, 0)) else ((lo Prod.fst ps ps.length, lo Prod.snd ps ps.length), (hi Prod.fst ps ps.length, hi Prod.snd ps ps.length))

theorem coords_has (a : Option Addr) (n c F : Nat) (w : World) : Calls Try.prog 46 #[.slice a n c, .func (.func F) #[] #[]] w fun e w' => e = .returned (.func (.func 65) #[] #[.pointer (some ⟨w.heap.size, 0, none⟩), .pointer (some ⟨w.heap.size + 1, 0, none⟩)]) ∧ Grows w w' ∧ w'.cell? ⟨w.heap.size, 0, none⟩ = some (.slice a n c) ∧ w'.cell? ⟨w.heap.size + 1, 0, none⟩ = some (.func (.func F) #[] #[]) := by
  refine (coords_any a n c F w).mono ?_
  rintro e w' ⟨rfl, rfl⟩
  have C := has2 (w := w) [.slice a n c] [.func (.func F) #[] #[]] 22 69
  exact ⟨rfl, C.low, C.one2.1.1, C.one2.1.2⟩

set_option maxRecDepth 100000 in
set_option maxHeartbeats 4000000 in
theorem box_any (v : Value) (ps : List (Int × Int)) (w : World) (hv : RowP w v ps) :
    Calls Try.prog 24 #[v] w fun e w' => e = .returned (.agg #[.int .i64 (bxo ps).1.1, .int .i64 (bxo ps).1.2, .int .i64 (bxo ps).2.1, .int .i64 (bxo ps).2.2]) ∧ Below w.heap.size w w' := by
  have C0 := has1 (w := w) [.int .i64 0, .int .i64 0, .int .i64 0, .int .i64 0] 24
  have hv0 := hv
  obtain ⟨a, cap, rfl, hc1, hc2, -⟩ := hv0
  by_cases hn : ps.length = 0
  · rw [show bxo ps = ((0, 0), (0, 0)) by unfold bxo; rw [if_pos hn]]
    rw [hn] at hc1 ⊢
    clear hv
    go_enter Try.func24, Try.ntmps24
    go_upto_region 1 with fail
    change Has w _ (w.alloc (.cells #[.int .i64 0, .int .i64 0, .int .i64 0, .int .i64 0] 24)) at C0
    generalize w.alloc (.cells #[.int .i64 0, .int .i64 0, .int .i64 0, .int .i64 0] 24) = w1 at *
    have f0 := C0.free (.head _) (i := 0) rfl
    have f1 := C0.free (.head _) (i := 1) rfl
    have f2 := C0.free (.head _) (i := 2) rfl
    have f3 := C0.free (.head _) (i := 3) rfl
    have k0 := C0.fact (.head _) (i := 0) rfl
    have k1 := C0.fact (.head _) (i := 1) rfl
    have k2 := C0.fact (.head _) (i := 2) rfl
    have k3 := C0.fact (.head _) (i := 3) rfl
    go_wp2_with fail
    have C1 := (((C0.set 0 (by simp) (.int .i64 0)).set 1 (by simp) (.int .i64 0)).set 2 (by simp) (.int .i64 0)).set 3 (by simp) (.int .i64 0)
    change Has w [(w.heap.size, [.int .i64 0, .int .i64 0, .int .i64 0, .int .i64 0])] ((((w1.setCell ⟨w.heap.size, 0, none⟩ (.int .i64 0)).setCell ⟨w.heap.size, 1, none⟩ (.int .i64 0)).setCell ⟨w.heap.size, 2, none⟩ (.int .i64 0)).setCell ⟨w.heap.size, 3, none⟩ (.int .i64 0)) at C1
    generalize (((w1.setCell ⟨w.heap.size, 0, none⟩ (.int .i64 0)).setCell ⟨w.heap.size, 1, none⟩ (.int .i64 0)).setCell ⟨w.heap.size, 2, none⟩ (.int .i64 0)).setCell ⟨w.heap.size, 3, none⟩ (.int .i64 0) = w2 at *
    have d0 := C1.fact (.head _) (i := 0) rfl
    have d1 := C1.fact (.head _) (i := 1) rfl
    have d2 := C1.fact (.head _) (i := 2) rfl
    have d3 := C1.fact (.head _) (i := 3) rfl
    exact bodyPost_ret (v := .agg #[.int .i64 0, .int .i64 0, .int .i64 0, .int .i64 0]) (by simp [results, Try.results24, go_sem, d0, d1, d2, d3]) rfl ⟨rfl, C1.low⟩
  · obtain ⟨x0, hx0⟩ : ∃ x, lo Prod.fst ps ps.length = x := ⟨_, rfl⟩
    obtain ⟨y0, hy0⟩ : ∃ x, lo Prod.snd ps ps.length = x := ⟨_, rfl⟩
    obtain ⟨x1, hx1⟩ : ∃ x, hi Prod.fst ps ps.length = x := ⟨_, rfl⟩
    obtain ⟨y1, hy1⟩ : ∃ x, hi Prod.snd ps ps.length = x := ⟨_, rfl⟩
    have hbx := Lib.hid (show bxo ps = ((x0, y0), (x1, y1)) by unfold bxo; rw [if_neg hn, hx0, hy0, hx1, hy1])
    have Hx0 := Lib.hid hx0
    have Hy0 := Lib.hid hy0
    have Hx1 := Lib.hid hx1
    have Hy1 := Lib.hid hy1
    clear hx0 hy0 hx1 hy1
    have hne : 1 ≤ ps.length := by omega
    have HV := Lib.hid hv
    clear hv
    go_enter Try.func24, Try.ntmps24
    go_upto_region 1 with fail
    change Has w _ (w.alloc (.cells #[.int .i64 0, .int .i64 0, .int .i64 0, .int .i64 0] 24)) at C0
    generalize w.alloc (.cells #[.int .i64 0, .int .i64 0, .int .i64 0, .int .i64 0] 24) = w1 at *
    go_wp2_with fail
    refine (coords_has _ _ _ 47 _).mono ?_
    rintro e w2 ⟨rfl, g2, hB, hC⟩
    have C2 := C0.later g2
    go_wp2_with fail
    have E := ends_any Prod.fst ps _ _ w2 (fun n => iter47_seq n ps _ _ _ w2 (HV.out.later C2.low) hB hC hne) hne
    rw [Hx0.out, Hx1.out] at E
    refine (Has.call C2 E).mono ?_
    clear E
    rintro e w3 ⟨rfl, C3⟩
    clear hB hC g2 C0 C2
    go_wp2_with fail
    refine (coords_has _ _ _ 48 _).mono ?_
    rintro e w4 ⟨rfl, g4, hB, hC⟩
    have C4 := C3.later g4
    go_wp2_with fail
    have E := ends_any Prod.snd ps _ _ w4 (fun n => iter48_seq n ps _ _ _ w4 (HV.out.later C4.low) hB hC hne) hne
    rw [Hy0.out, Hy1.out] at E
    refine (Has.call C4 E).mono ?_
    clear E
    rintro e w5 ⟨rfl, C5⟩
    clear hB hC g4 C3 C4
    have f0 := C5.free (.head _) (i := 0) rfl
    have f1 := C5.free (.head _) (i := 1) rfl
    have f2 := C5.free (.head _) (i := 2) rfl
    have f3 := C5.free (.head _) (i := 3) rfl
    have k0 := C5.fact (.head _) (i := 0) rfl
    have k1 := C5.fact (.head _) (i := 1) rfl
    have k2 := C5.fact (.head _) (i := 2) rfl
    have k3 := C5.fact (.head _) (i := 3) rfl
    go_wp2_with fail
    have C6 := (((C5.set 0 (by simp) (.int .i64 x0)).set 1 (by simp) (.int .i64 y0)).set 2 (by simp) (.int .i64 x1)).set 3 (by simp) (.int .i64 y1)
    change Has w [(w.heap.size, [.int .i64 x0, .int .i64 y0, .int .i64 x1, .int .i64 y1])] ((((w5.setCell ⟨w.heap.size, 0, none⟩ (.int .i64 x0)).setCell ⟨w.heap.size, 1, none⟩ (.int .i64 y0)).setCell ⟨w.heap.size, 2, none⟩ (.int .i64 x1)).setCell ⟨w.heap.size, 3, none⟩ (.int .i64 y1)) at C6
    generalize (((w5.setCell ⟨w.heap.size, 0, none⟩ (.int .i64 x0)).setCell ⟨w.heap.size, 1, none⟩ (.int .i64 y0)).setCell ⟨w.heap.size, 2, none⟩ (.int .i64 x1)).setCell ⟨w.heap.size, 3, none⟩ (.int .i64 y1) = w6 at *
    have d0 := C6.fact (.head _) (i := 0) rfl
    have d1 := C6.fact (.head _) (i := 1) rfl
    have d2 := C6.fact (.head _) (i := 2) rfl
    have d3 := C6.fact (.head _) (i := 3) rfl
    exact bodyPost_ret (v := .agg #[.int .i64 x0, .int .i64 y0, .int .i64 x1, .int .i64 y1]) (by simp [results, Try.results24, go_sem, d0, d1, d2, d3]) rfl ⟨by rw [hbx.out], C6.low⟩

end Go.Proofs.Ytoehojopoajcaaa
