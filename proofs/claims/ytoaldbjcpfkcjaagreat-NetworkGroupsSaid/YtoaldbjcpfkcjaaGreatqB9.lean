/- The reference: Check. ring.segments: what it hands back hands out the segments of a ring. ring.Area2. The reference: next and Area2. ring.Check. Check and Cross are the reference's. The reference: Check of a ring. -/
import Derived.Test.YtoaldbjcpfkcjaaGreatqB8
import Derived.Test.YtoaldbjcpfkcjaaGreatqB6
import Derived.Test.YtoaldbjcpfkcjaaGreatqB5
import Derived.Test.YtoaldbjcpfkcjaaGreatqB7
namespace Go.Proofs.YtoaldbjcpfkcjaaGreat
open Go.RowKit Go.Lib

end Go.Proofs.YtoaldbjcpfkcjaaGreat

namespace Go.Proofs.YtoaldbjcpfkcjaaGreat
open Go.RowKit Go.Lib

end Go.Proofs.YtoaldbjcpfkcjaaGreat

namespace Go.Proofs.YtoaldbjcpfkcjaaGreat
open Go.RowKit Go.Lib

end Go.Proofs.YtoaldbjcpfkcjaaGreat

namespace Go.Proofs.YtoaldbjcpfkcjaaGreat
open Go.RowKit Go.Lib

end Go.Proofs.YtoaldbjcpfkcjaaGreat

namespace Go.Proofs.YtoaldbjcpfkcjaaGreat
open Go.RowKit Go.Lib

theorem RowP.cells0 {w : World} {b o n c : Nat} {ps : List (Int × Int)} (h : RowP w (.slice (some ⟨b, o, none⟩) n c) ps) {x y : Int} (hi : ps[0]? = some (x, y)) :
    w.cell? ⟨b, o, none⟩ = some (.int .i64 x) ∧ w.cell? ⟨b, o + 1, none⟩ = some (.int .i64 y) := by
  have := h.cells hi
  rwa [Nat.zero_mul, Nat.add_zero] at this
end Go.Proofs.YtoaldbjcpfkcjaaGreat

namespace Go.Proofs.YtoaldbjcpfkcjaaGreat
open Go.RowKit Go.Lib Geo

end Go.Proofs.YtoaldbjcpfkcjaaGreat

namespace Go.Proofs.YtoaldbjcpfkcjaaGreat
open Go.RowKit Go.Lib

end Go.Proofs.YtoaldbjcpfkcjaaGreat
