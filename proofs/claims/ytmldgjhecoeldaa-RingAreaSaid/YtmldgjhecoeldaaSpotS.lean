/- SpotSide of point. -/
import Derived.Test.YtmldgjhecoeldaaSideS
namespace Go.Proofs.Ytmldgjhecoeldaa
open Go.RowKit Go.Lib

set_option maxRecDepth 100000 in
set_option maxHeartbeats 1000000 in
theorem spotSide_any (a0 a1 a2 b0 b1 b2 p0 p1 p2 : Int) (w : World) :
    Calls Try.prog 47 #[.agg #[.int .i64 a0, .int .i64 a1, .int .i64 a2], .agg #[.int .i64 b0, .int .i64 b1, .int .i64 b2], .agg #[.int .i64 p0, .int .i64 p1, .int .i64 p2]] w fun e w' => e = .returned (.int .i64 (sideS a0 a1 a2 b0 b1 b2 p0 p1 p2)) ∧ Below w.heap.size w w' := by
  have C0 := has3 (w := w) [.int .i64 a0, .int .i64 a1, .int .i64 a2] [.int .i64 b0, .int .i64 b1, .int .i64 b2] [.int .i64 p0, .int .i64 p1, .int .i64 p2] 39 39 39
  go_enter Try.func47, Try.ntmps47
  go_wp2_with fail
  refine (Has.call C0 (sideSp_any a0 a1 a2 b0 b1 b2 p0 p1 p2 _)).mono ?_
  rintro e w1 ⟨rfl, C1⟩
  go_wp2_with fail
  go_ret
  exact ⟨rfl, C1.low⟩

theorem spotSide_is (a0 a1 a2 b0 b1 b2 p0 p1 p2 s : Int) (h : sideS a0 a1 a2 b0 b1 b2 p0 p1 p2 = s) (w : World) :
    Calls Try.prog 47 #[.agg #[.int .i64 a0, .int .i64 a1, .int .i64 a2], .agg #[.int .i64 b0, .int .i64 b1, .int .i64 b2], .agg #[.int .i64 p0, .int .i64 p1, .int .i64 p2]] w fun e w' => e = .returned (.int .i64 s) ∧ Below w.heap.size w w' := h ▸ spotSide_any a0 a1 a2 b0 b1 b2 p0 p1 p2 w

end Go.Proofs.Ytmldgjhecoeldaa
