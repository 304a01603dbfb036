/- The ways of the examples; those that numbers make. -/
import Derived.Test.YtoaldbjcpfkcjaaGreatcWx
namespace Go.Proofs.YtoaldbjcpfkcjaaGreat
open Go.RowKit Go.Lib

/-- The straight way of the examples. -/
def exw (n x0 y0 x1 y1 : Int) : Wy := ⟨n, [(x0, y0), (x1, y1)], 0, { data := #[] }, { data := #[] }, false, 1, 0⟩
set_option linter.unusedSimpArgs false in
set_option maxHeartbeats 400000 in
theorem way_any (n x0 y0 x1 y1 : Int) (w : World) :
  Calls Tryz.prog 30 #[.int .i64 n, .int .i64 x0, .int .i64 y0, .int .i64 x1, .int .i64 y1] w fun e w' => ∃ u, e = .returned (wv (exw n x0 y0 x1 y1) u) ∧ RowP w' u [(x0, y0), (x1, y1)] ∧ Below w.heap.size w w' := by
 have C0 := has1 (w := w) [.int .i64 0, .slice none 0 0, .int .i64 0, .string { data := #[] }, .string { data := #[] }, .bool false, .int .i64 0, .int .i64 0] 44
 go_enter Tryz.func30, Tryz.ntmps30
 go_upto_region 1 with fail
 change Has w _ (w.alloc (.cells #[.int .i64 0, .slice none 0 0, .int .i64 0, .string { data := #[] }, .string { data := #[] }, .bool false, .int .i64 0, .int .i64 0] 44)) at C0
 have hs0 : (w.alloc (.cells #[.int .i64 0, .slice none 0 0, .int .i64 0, .string { data := #[] }, .string { data := #[] }, .bool false, .int .i64 0, .int .i64 0] 44)).heap.size = w.heap.size + 1 := size_alloc _ _
 generalize w.alloc (.cells #[.int .i64 0, .slice none 0 0, .int .i64 0, .string { data := #[] }, .string { data := #[] }, .bool false, .int .i64 0, .int .i64 0] 44) = w0 at *
 have C1 := C0.push [.int .i64 x0, .int .i64 y0, .int .i64 x1, .int .i64 y1] 37
 rw [hs0] at C1
 go_wp2_with (refine wpList_store_has (vs := [.int .i64 n, .slice (some ⟨w.heap.size + 1, 0, none⟩) 2 2, .int .i64 0, .string { data := #[] }, .string { data := #[] }, .bool false, .int .i64 1, .int .i64 0]) rfl rfl rfl ?_ ?_ C1.swap rfl (by kernel_rfl) (by simp [Value.oneCell']) ?_)
 ·rfl
 ·rfl
 rintro w2 C2 -
 have R2 : RowP w2 (.slice (some ⟨w.heap.size + 1, 0, none⟩) 2 2) [(x0, y0), (x1, y1)] := RowP.block (ps := [(x0, y0), (x1, y1)]) C2.tail.cells (by simp) (by decide)
 obtain ⟨d0, d1, d2, d3, d4, d5, d6, d7⟩ := C2.wy
 have B2 := C2.low
 go_wp2_with fail
 exact bodyPost_ret (v := .agg #[.int .i64 n, .slice (some ⟨w.heap.size + 1, 0, none⟩) 2 2, .int .i64 0, .string { data := #[] }, .string { data := #[] }, .bool false, .int .i64 1, .int .i64 0]) (by simp [results, Tryz.results30, go_sem, d0, d1, d2, d3, d4, d5, d6, d7]) rfl ⟨_, rfl, R2, B2⟩

end Go.Proofs.YtoaldbjcpfkcjaaGreat
