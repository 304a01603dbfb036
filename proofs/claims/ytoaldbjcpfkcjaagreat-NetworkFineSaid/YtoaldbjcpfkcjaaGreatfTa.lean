/- Points and lines turned, moved and reversed. -/
import Derived.Test.YtoaldbjcpfkcjaaGreatfWa
namespace Go.Proofs.YtoaldbjcpfkcjaaGreat
open Go.RowKit Go.Lib

end Go.Proofs.YtoaldbjcpfkcjaaGreat
