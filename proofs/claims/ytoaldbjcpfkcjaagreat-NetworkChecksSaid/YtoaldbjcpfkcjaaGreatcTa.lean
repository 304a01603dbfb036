/- Points and lines turned, moved and reversed. -/
import Derived.Test.YtoaldbjcpfkcjaaGreatcWa
namespace Go.Proofs.YtoaldbjcpfkcjaaGreat
open Go.RowKit Go.Lib

end Go.Proofs.YtoaldbjcpfkcjaaGreat
