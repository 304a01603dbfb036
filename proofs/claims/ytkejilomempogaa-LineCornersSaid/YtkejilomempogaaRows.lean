/-
  No cell of these rows narrows 'for every input' (looked for: loops, veiled, ifaces, maps, wideKeys, modest, calm, conditions, laid).
  DERIVED. THE GIVEN ROWS OF THIS SEAT. 6 by the template 'for every input the law returns true; each argument reads behind the call as it read before'; 0 by the template 'total and deterministic' (their statements: YtkejilomempogaaTotals.lean).
  GIVEN WITH THE SEED: the statements are not yours to turn. If you find one false, say at which input.
  Laid BY PROGRAM, IN A SANDBOX (cutbox-rows.mjs): the forced cells as the released guide's own fill.sh prints them over the translation cf38fd7170e02e12… (all of the seat's roots in one cut). By AI agents, Wed Nov 11 2026. No macro, syntax, notation, axiom, sorry.
-/
import Derived.Test.YtkejilomempogaaChecked
import GoSem.Claim
import GoSem.ClaimJoined
import GoSem.ClaimMapViews
import Derived.JoinedTies
import Derived.KernelRfl
namespace Go.Proofs.Ytkejilomempogaa
/- THE CELL 'sum', in the pinned program and in every row, IS THE sha256 OF THE DUMP (.gsa) THAT YtkejilomempogaaProg.lean LOADS. Nothing in Lean hashes anything: it is a label: what it is worth is what the hold of that sum in a sandbox is worth. -/
noncomputable def Try.pinned : Pinned := { name := "ytkejilomempogaa", sum := "cf38fd7170e02e121b30b6f2c554fa0bc8cc42363108c3e5b4c15bdccf9a299a", checked := Try.checked }
namespace Rows
def none {H : Type} : Left H := { results := [], args := [] }

/-- 'hachurelaw05.LineChecks': WHATEVER THE INPUT: true; the input reads as it did. -/
def lineChecksSpec : ChangeSpec := { name := "lineChecks", fn := fun _ => fun
  | [d1, d2, d3] => { results := [.lit (.bool true)], args := [d1, d2, d3] }
  | _ => none }
def lineChecksRow : OpenClaim := { program := "ytkejilomempogaa", sum := "cf38fd7170e02e121b30b6f2c554fa0bc8cc42363108c3e5b4c15bdccf9a299a", func := "hachure/hachurelaw05.LineChecks", spec := "lineChecks", unfollowed := true, recurses := true, apart := false }
def LineChecksSaid : Prop := lineChecksRow.holds Try.pinned (OpenSpec.ofChange lineChecksSpec)

/-- ITS FALSE NEIGHBOUR: 'it returns false'. Refute it at one input. -/
def lineChecksWrong : ChangeSpec := { name := "lineChecks", fn := fun _ => fun
  | [d1, d2, d3] => { results := [.lit (.bool false)], args := [d1, d2, d3] }
  | _ => none }
def LineChecksWrongFalsely : Prop := lineChecksRow.holds Try.pinned (OpenSpec.ofChange lineChecksWrong)

/-- 'hachurelaw05.LineWithins': WHATEVER THE INPUT: true; the input reads as it did. -/
def lineWithinsSpec : ChangeSpec := { name := "lineWithins", fn := fun _ => fun
  | [d1, d2, d3] => { results := [.lit (.bool true)], args := [d1, d2, d3] }
  | _ => none }
def lineWithinsRow : OpenClaim := { program := "ytkejilomempogaa", sum := "cf38fd7170e02e121b30b6f2c554fa0bc8cc42363108c3e5b4c15bdccf9a299a", func := "hachure/hachurelaw05.LineWithins", spec := "lineWithins", unfollowed := true, recurses := true, apart := false }
def LineWithinsSaid : Prop := lineWithinsRow.holds Try.pinned (OpenSpec.ofChange lineWithinsSpec)

/-- ITS FALSE NEIGHBOUR: 'it returns false'. Refute it at one input. -/
def lineWithinsWrong : ChangeSpec := { name := "lineWithins", fn := fun _ => fun
  | [d1, d2, d3] => { results := [.lit (.bool false)], args := [d1, d2, d3] }
  | _ => none }
def LineWithinsWrongFalsely : Prop := lineWithinsRow.holds Try.pinned (OpenSpec.ofChange lineWithinsWrong)

/-- 'hachurelaw05.LineCrosses': WHATEVER THE INPUT: true; the input reads as it did. -/
def lineCrossesSpec : ChangeSpec := { name := "lineCrosses", fn := fun _ => fun
  | [d1, d2, d3] => { results := [.lit (.bool true)], args := [d1, d2, d3] }
  | _ => none }
def lineCrossesRow : OpenClaim := { program := "ytkejilomempogaa", sum := "cf38fd7170e02e121b30b6f2c554fa0bc8cc42363108c3e5b4c15bdccf9a299a", func := "hachure/hachurelaw05.LineCrosses", spec := "lineCrosses", unfollowed := true, recurses := true, apart := false }
def LineCrossesSaid : Prop := lineCrossesRow.holds Try.pinned (OpenSpec.ofChange lineCrossesSpec)

/-- ITS FALSE NEIGHBOUR: 'it returns false'. Refute it at one input. -/
def lineCrossesWrong : ChangeSpec := { name := "lineCrosses", fn := fun _ => fun
  | [d1, d2, d3] => { results := [.lit (.bool false)], args := [d1, d2, d3] }
  | _ => none }
def LineCrossesWrongFalsely : Prop := lineCrossesRow.holds Try.pinned (OpenSpec.ofChange lineCrossesWrong)

/-- 'hachurelaw05.LineTurns': WHATEVER THE INPUT: true; the input reads as it did. -/
def lineTurnsSpec : ChangeSpec := { name := "lineTurns", fn := fun _ => fun
  | [d1, d2, d3] => { results := [.lit (.bool true)], args := [d1, d2, d3] }
  | _ => none }
def lineTurnsRow : OpenClaim := { program := "ytkejilomempogaa", sum := "cf38fd7170e02e121b30b6f2c554fa0bc8cc42363108c3e5b4c15bdccf9a299a", func := "hachure/hachurelaw05.LineTurns", spec := "lineTurns", unfollowed := true, recurses := true, apart := false }
def LineTurnsSaid : Prop := lineTurnsRow.holds Try.pinned (OpenSpec.ofChange lineTurnsSpec)

/-- ITS FALSE NEIGHBOUR: 'it returns false'. Refute it at one input. -/
def lineTurnsWrong : ChangeSpec := { name := "lineTurns", fn := fun _ => fun
  | [d1, d2, d3] => { results := [.lit (.bool false)], args := [d1, d2, d3] }
  | _ => none }
def LineTurnsWrongFalsely : Prop := lineTurnsRow.holds Try.pinned (OpenSpec.ofChange lineTurnsWrong)

/-- 'hachurelaw05.LineCorners': WHATEVER THE INPUT: true; the input reads as it did. -/
def lineCornersSpec : ChangeSpec := { name := "lineCorners", fn := fun _ => fun
  | [d] => { results := [.lit (.bool true)], args := [d] }
  | _ => none }
def lineCornersRow : OpenClaim := { program := "ytkejilomempogaa", sum := "cf38fd7170e02e121b30b6f2c554fa0bc8cc42363108c3e5b4c15bdccf9a299a", func := "hachure/hachurelaw05.LineCorners", spec := "lineCorners", unfollowed := true, recurses := true, apart := false }
def LineCornersSaid : Prop := lineCornersRow.holds Try.pinned (OpenSpec.ofChange lineCornersSpec)

/-- ITS FALSE NEIGHBOUR: 'it returns false'. Refute it at one input. -/
def lineCornersWrong : ChangeSpec := { name := "lineCorners", fn := fun _ => fun
  | [d] => { results := [.lit (.bool false)], args := [d] }
  | _ => none }
def LineCornersWrongFalsely : Prop := lineCornersRow.holds Try.pinned (OpenSpec.ofChange lineCornersWrong)

/-- 'hachurelaw05.LineNears': WHATEVER THE INPUT: true; the input reads as it did. -/
def lineNearsSpec : ChangeSpec := { name := "lineNears", fn := fun _ => fun
  | [d1, d2, d3] => { results := [.lit (.bool true)], args := [d1, d2, d3] }
  | _ => none }
def lineNearsRow : OpenClaim := { program := "ytkejilomempogaa", sum := "cf38fd7170e02e121b30b6f2c554fa0bc8cc42363108c3e5b4c15bdccf9a299a", func := "hachure/hachurelaw05.LineNears", spec := "lineNears", unfollowed := true, recurses := true, apart := false }
def LineNearsSaid : Prop := lineNearsRow.holds Try.pinned (OpenSpec.ofChange lineNearsSpec)

/-- ITS FALSE NEIGHBOUR: 'it returns false'. Refute it at one input. -/
def lineNearsWrong : ChangeSpec := { name := "lineNears", fn := fun _ => fun
  | [d1, d2, d3] => { results := [.lit (.bool false)], args := [d1, d2, d3] }
  | _ => none }
def LineNearsWrongFalsely : Prop := lineNearsRow.holds Try.pinned (OpenSpec.ofChange lineNearsWrong)

/- THE SECOND FORM. 'bulk': how many values and letters a reading holds, each counted each time it is reached (what is shared counts as often as it is met; a slice's spare places count too). A statement '..UptoSaid' is the law's where the arguments, and the package variables that the reading takes, are together of bulk at most 1048576: NARROWER than '..Said'. Prove '..Said' where nothing that the law and all that it calls make is longer than what came in: it says more and counts as full. Else prove '..UptoSaid'. A law counts once. -/
mutual
def uptoBulk {H : Type} : DataW H → Nat
  | .lit (.string bytes) => bytes.length + 1
  | .lit _ => 1
  | .nil => 1
  | .ptr d => uptoBulk d + 1
  | .slice elems spare => uptoBulkAll elems + uptoBulkAll spare + 1
  | .agg parts => uptoBulkAll parts + 1
  | .iface _ d => uptoBulk d + 1
  | .map entries => uptoBulkEntries entries + 1
  | .held _ => 1
def uptoBulkAll {H : Type} : List (DataW H) → Nat
  | [] => 0
  | d :: r => uptoBulk d + uptoBulkAll r
def uptoBulkEntries {H : Type} : List (Lit × DataW H) → Nat
  | [] => 0
  | x :: r => uptoBulkEntry x + uptoBulkEntries r
def uptoBulkEntry {H : Type} : Lit × DataW H → Nat
  | (.string bytes, d) => bytes.length + uptoBulk d + 1
  | (_, d) => uptoBulk d + 1
 end
def uptoSmall : (H : Type) → List (DataW H) → Bool := fun _ ds => decide (uptoBulkAll ds ≤ 1048576)
def OpenSpec.upto (s : _root_.Go.ChangeSpec) : _root_.Go.OpenSpec := { _root_.Go.OpenSpec.ofChange s with cond := some uptoSmall }

/-- 'hachurelaw05.LineChecks', WHERE WHAT IT READS IS OF BULK AT MOST 1048576: true; the input reads as it did. -/
def lineChecksUptoRow : OpenClaim := { program := "ytkejilomempogaa", sum := "cf38fd7170e02e121b30b6f2c554fa0bc8cc42363108c3e5b4c15bdccf9a299a", func := "hachure/hachurelaw05.LineChecks", spec := "lineChecks", unfollowed := true, recurses := true, apart := false, narrowed := true }
def LineChecksUptoSaid : Prop := lineChecksUptoRow.holds Try.pinned (OpenSpec.upto lineChecksSpec)

/-- 'hachurelaw05.LineWithins', WHERE WHAT IT READS IS OF BULK AT MOST 1048576: true; the input reads as it did. -/
def lineWithinsUptoRow : OpenClaim := { program := "ytkejilomempogaa", sum := "cf38fd7170e02e121b30b6f2c554fa0bc8cc42363108c3e5b4c15bdccf9a299a", func := "hachure/hachurelaw05.LineWithins", spec := "lineWithins", unfollowed := true, recurses := true, apart := false, narrowed := true }
def LineWithinsUptoSaid : Prop := lineWithinsUptoRow.holds Try.pinned (OpenSpec.upto lineWithinsSpec)

/-- 'hachurelaw05.LineCrosses', WHERE WHAT IT READS IS OF BULK AT MOST 1048576: true; the input reads as it did. -/
def lineCrossesUptoRow : OpenClaim := { program := "ytkejilomempogaa", sum := "cf38fd7170e02e121b30b6f2c554fa0bc8cc42363108c3e5b4c15bdccf9a299a", func := "hachure/hachurelaw05.LineCrosses", spec := "lineCrosses", unfollowed := true, recurses := true, apart := false, narrowed := true }
def LineCrossesUptoSaid : Prop := lineCrossesUptoRow.holds Try.pinned (OpenSpec.upto lineCrossesSpec)

/-- 'hachurelaw05.LineTurns', WHERE WHAT IT READS IS OF BULK AT MOST 1048576: true; the input reads as it did. -/
def lineTurnsUptoRow : OpenClaim := { program := "ytkejilomempogaa", sum := "cf38fd7170e02e121b30b6f2c554fa0bc8cc42363108c3e5b4c15bdccf9a299a", func := "hachure/hachurelaw05.LineTurns", spec := "lineTurns", unfollowed := true, recurses := true, apart := false, narrowed := true }
def LineTurnsUptoSaid : Prop := lineTurnsUptoRow.holds Try.pinned (OpenSpec.upto lineTurnsSpec)

/-- 'hachurelaw05.LineCorners', WHERE WHAT IT READS IS OF BULK AT MOST 1048576: true; the input reads as it did. -/
def lineCornersUptoRow : OpenClaim := { program := "ytkejilomempogaa", sum := "cf38fd7170e02e121b30b6f2c554fa0bc8cc42363108c3e5b4c15bdccf9a299a", func := "hachure/hachurelaw05.LineCorners", spec := "lineCorners", unfollowed := true, recurses := true, apart := false, narrowed := true }
def LineCornersUptoSaid : Prop := lineCornersUptoRow.holds Try.pinned (OpenSpec.upto lineCornersSpec)

/-- 'hachurelaw05.LineNears', WHERE WHAT IT READS IS OF BULK AT MOST 1048576: true; the input reads as it did. -/
def lineNearsUptoRow : OpenClaim := { program := "ytkejilomempogaa", sum := "cf38fd7170e02e121b30b6f2c554fa0bc8cc42363108c3e5b4c15bdccf9a299a", func := "hachure/hachurelaw05.LineNears", spec := "lineNears", unfollowed := true, recurses := true, apart := false, narrowed := true }
def LineNearsUptoSaid : Prop := lineNearsUptoRow.holds Try.pinned (OpenSpec.upto lineNearsSpec)

end Rows
end Go.Proofs.Ytkejilomempogaa
