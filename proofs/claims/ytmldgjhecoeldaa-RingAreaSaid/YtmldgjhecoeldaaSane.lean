/- The examples of the chapter, as each law asks them ahead of all else: they all come out true. -/
import Derived.Test.YtmldgjhecoeldaaMeet
import Derived.Test.YtmldgjhecoeldaaOn
import Derived.Test.YtmldgjhecoeldaaSmall
namespace Go.Proofs.Ytmldgjhecoeldaa
open Go.RowKit Go.Lib

theorem on_is (a0 a1 b0 b1 p0 p1 : Int) (r : Bool) (h : onOf a0 a1 b0 b1 p0 p1 = r) (w : World) :
    Calls Try.prog 36 #[.agg #[.int .i64 a0, .int .i64 a1], .agg #[.int .i64 b0, .int .i64 b1], .agg #[.int .i64 p0, .int .i64 p1]] w fun e w' => e = .returned (.bool r) ∧ Below w.heap.size w w' := h ▸ on_any a0 a1 b0 b1 p0 p1 w
end Go.Proofs.Ytmldgjhecoeldaa
