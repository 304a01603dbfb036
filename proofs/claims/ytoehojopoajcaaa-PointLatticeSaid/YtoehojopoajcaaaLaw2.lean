/- More words for the walks of the laws. -/
import Derived.Test.YtoehojopoajcaaaLaw
import Derived.Test.YtoehojopoajcaaaROn
import Derived.Test.YtoehojopoajcaaaRMeet
import Derived.Test.YtoehojopoajcaaaRSide
import Derived.Test.YtoehojopoajcaaaGeoc
namespace Go.Proofs.Ytoehojopoajcaaa
open Go.RowKit Go.Lib

theorem ron_is (a0 a1 b0 b1 p0 p1 : Int) (r : Bool) (h : onOf a0 a1 b0 b1 p0 p1 = r) (w : World) :
    Calls Try.prog 33 #[.agg #[.int .i64 a0, .int .i64 a1], .agg #[.int .i64 b0, .int .i64 b1], .agg #[.int .i64 p0, .int .i64 p1]] w fun e w' => e = .returned (.bool r) ∧ Below w.heap.size w w' := by
  have := ron_any a0 a1 b0 b1 p0 p1 w
  rw [Geo.on_same, h] at this
  exact this

end Go.Proofs.Ytoehojopoajcaaa
