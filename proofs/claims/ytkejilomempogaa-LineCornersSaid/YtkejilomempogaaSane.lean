/- The examples of the chapter, as each law asks them ahead of all else: they all come out true. -/
import Derived.Test.YtkejilomempogaaMeet
import Derived.Test.YtkejilomempogaaOn
import Derived.Test.YtkejilomempogaaSmall
namespace Go.Proofs.Ytkejilomempogaa
open Go.RowKit Go.Lib

theorem turn_is (x y n p q : Int) (h : rotN (n % 4).toNat x y = (p, q)) (w : World) :
    Calls Try.prog 57 #[.agg #[.int .i64 x, .int .i64 y], .int .i64 n] w fun e w' => e = .returned (.agg #[.int .i64 p, .int .i64 q]) ∧ Below w.heap.size w w' := by
  have := turn_any x y n w
  rw [h] at this
  exact this
theorem on_is (a0 a1 b0 b1 p0 p1 : Int) (r : Bool) (h : onOf a0 a1 b0 b1 p0 p1 = r) (w : World) :
    Calls Try.prog 33 #[.agg #[.int .i64 a0, .int .i64 a1], .agg #[.int .i64 b0, .int .i64 b1], .agg #[.int .i64 p0, .int .i64 p1]] w fun e w' => e = .returned (.bool r) ∧ Below w.heap.size w w' := h ▸ on_any a0 a1 b0 b1 p0 p1 w
end Go.Proofs.Ytkejilomempogaa
