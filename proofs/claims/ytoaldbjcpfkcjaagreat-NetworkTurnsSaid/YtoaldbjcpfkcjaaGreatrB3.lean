/- Side of the reference. On of the reference. Meet of the reference, where a point is not bounded. Meet of the reference, where all ends lie on one line. Meet of the reference, where the ends do not all lie on one line. Meet of the reference. -/
import Derived.Test.YtoaldbjcpfkcjaaGreatrB1
import Derived.IntWalk
namespace Go.Proofs.YtoaldbjcpfkcjaaGreat
open Go.RowKit Go.Lib

end Go.Proofs.YtoaldbjcpfkcjaaGreat

namespace Go.Proofs.YtoaldbjcpfkcjaaGreat
open Go.RowKit Go.Lib


end Go.Proofs.YtoaldbjcpfkcjaaGreat

namespace Go.Proofs.YtoaldbjcpfkcjaaGreat
open Go.RowKit Go.Lib

end Go.Proofs.YtoaldbjcpfkcjaaGreat

namespace Go.Proofs.YtoaldbjcpfkcjaaGreat
open Go.RowKit Go.Lib

end Go.Proofs.YtoaldbjcpfkcjaaGreat

namespace Go.Proofs.YtoaldbjcpfkcjaaGreat
open Go.RowKit Go.Lib

end Go.Proofs.YtoaldbjcpfkcjaaGreat

namespace Go.Proofs.YtoaldbjcpfkcjaaGreat
open Go.RowKit Go.Lib

end Go.Proofs.YtoaldbjcpfkcjaaGreat
