/- Arguments: a byte. -/
import Derived.Test.YtoaldbjcpfkcjaaGreatfFrameN
namespace Go.Proofs.YtoaldbjcpfkcjaaGreat
open Go.ChangeShapes Go.WideShapes Go.ChangeAt Go.RowKit Go.Joins
set_option maxRecDepth 100000
section
variable {H : Type} {enc : TypeId × Value → H} {W : World}
theorem cell_u8 {m : Nat} {c : Value} {x : DataW H × List MemPlace} (h : DataW.trod enc Tryz.prog W 0 (fun _ => true) true m 5 [c] = some x) : ∃ z : Nat, c = .int .u8 (z : Int) ∧ z < 256 := by
 obtain ⟨z, hz, _, wf⟩ := DataW.trod_int Tryz.underlying5 h
 simp at hz
 simp [Lit.wf, IntKind.min, IntKind.max, IntKind.bits, IntKind.signed] at wf
 refine ⟨z.toNat, ?_, by omega⟩
 rw [hz, Int.toNat_of_nonneg (by omega)]
theorem arg_u8 {r : Reach} {b0 : Nat} {v : Value} {d : DataW H} {p : List MemPlace} (hv : Value.okWide Tryz.prog W r b0 5 v) (h : DataW.Trod enc Tryz.prog W 0 (fun _ => true) true 5 v d p) : ∃ n : Nat, v = .int .u8 (n : Int) ∧ n < 256 := by
 obtain ⟨z, rfl⟩ := okWide_int Tryz.underlying5 hv
 obtain ⟨m, hf⟩ := h
 exact cell_u8 hf
end
end Go.Proofs.YtoaldbjcpfkcjaaGreat
