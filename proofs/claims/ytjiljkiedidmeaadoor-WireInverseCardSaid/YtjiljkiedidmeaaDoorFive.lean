/- The values of the wire laws, as five cells hold them, and slices of them. -/
import Derived.Test.YtjiljkiedidmeaaDoorLists
namespace Go.Proofs.YtjiljkiedidmeaaDoor
open Go.RowKit Go.Lib

/-- A value of the law, as its five cells hold it. -/
structure V5 where
  n : Nat
  N : Int
  s : List UInt8
  vl : Value
  l : List Int
  vt : Value
  t : List (List UInt8)
def V5.cells (v : V5) : List Value := [.int .u8 (v.n : Int), .int .i64 v.N, .string ⟨v.s.toArray⟩, v.vl, v.vt]
def V5.ok (w : World) (v : V5) : Prop :=
  InI v.N ∧ (v.s.length : Int) ≤ 9223372036854775807 ∧ Row w v.vl (ints v.l) ∧ Row w v.vt (strs v.t) ∧ (∀ x ∈ v.l, InI x) ∧ (∀ x ∈ v.t, (x.length : Int) ≤ 9223372036854775807)
/-- A slice of such values. -/
def RowV (w : World) (v : Value) (vs : List V5) : Prop :=
  ∃ a cap, v = .slice a vs.length cap ∧ vs.length ≤ cap ∧ (cap : Int) ≤ 9223372036854775807 ∧ (vs = [] ∨ ∃ b o, a = some ⟨b, o, none⟩ ∧ ∀ i u, vs[i]? = some u → ∀ j c, u.cells[j]? = some c → w.cell? ⟨b, o + i * 5 + j, none⟩ = some c)

end Go.Proofs.YtjiljkiedidmeaaDoor
