/- Which group a way is in. -/
import Derived.Test.YtoaldbjcpfkcjaaGreatcSg
namespace Go.Proofs.YtoaldbjcpfkcjaaGreat
open Go.RowKit Go.Lib

theorem take_snoc {α : Type} {R : List α} {k : Nat} {b : α} (h : R[k]? = some b) : R.take (k + 1) = R.take k ++ [b] := by rw [List.take_add_one, h]; rfl
end Go.Proofs.YtoaldbjcpfkcjaaGreat
