/- Whether a point is on a segment: the words. -/
import Derived.Test.YtmldgjhecoeldaaBd
import Derived.Test.YtmldgjhecoeldaaOvl
namespace Go.Proofs.Ytmldgjhecoeldaa
open Go.RowKit Go.Lib

theorem overlap_is (a0 a1 b0 b1 c0 c1 d0 d1 s : Int) (h : ovl a0 a1 b0 b1 c0 c1 d0 d1 = s) (w : World) :
    Calls Try.prog 64 #[.agg #[.int .i64 a0, .int .i64 a1], .agg #[.int .i64 b0, .int .i64 b1], .agg #[.int .i64 c0, .int .i64 c1], .agg #[.int .i64 d0, .int .i64 d1]] w fun e w' => e = .returned (.int .i64 s) ∧ Below w.heap.size w w' := h ▸ overlap_any a0 a1 b0 b1 c0 c1 d0 d1 w

/-- Whether p is a point of the segment, as point.On says it, and as the reference does. -/
def onOf (a0 a1 b0 b1 p0 p1 : Int) : Bool := inl 1152921504606846976 a0 a1 && (inl 1152921504606846976 b0 b1 && (inl 1152921504606846976 p0 p1 && (decide (sideOf a0 a1 b0 b1 p0 p1 = 0) && decide (ovl a0 a1 b0 b1 p0 p1 p0 p1 = 1))))
def ronOf (a0 a1 b0 b1 p0 p1 : Int) : Bool := inl 1152921504606846976 a0 a1 && (inl 1152921504606846976 b0 b1 && (inl 1152921504606846976 p0 p1 && (btw (min a0 b0) p0 (max a0 b0) && (btw (min a1 b1) p1 (max a1 b1) && decide (sideOf a0 a1 b0 b1 p0 p1 = 0)))))


end Go.Proofs.Ytmldgjhecoeldaa
