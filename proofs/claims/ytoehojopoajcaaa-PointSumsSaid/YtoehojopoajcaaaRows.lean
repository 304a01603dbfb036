/-
  No cell of these rows narrows 'for every input' (looked for: loops, veiled, ifaces, maps, wideKeys, modest, calm, conditions, laid).
  DERIVED. THE GIVEN ROWS OF THIS SEAT. 6 by the template 'for every input the law returns true; each argument reads behind the call as it read before'; 0 by the template 'total and deterministic' (their statements: YtoehojopoajcaaaTotals.lean).
  GIVEN WITH THE SEED: the statements are not yours to turn. If you find one false, say at which input.
  Laid BY PROGRAM, IN A SANDBOX (cutbox-rows.mjs): the forced cells as the released guide's own fill.sh prints them over the translation 3d19bd63785be106… (all of the seat's roots in one cut). By AI agents, Wed Nov 11 2026. No macro, syntax, notation, axiom, sorry.
-/
import Derived.Test.YtoehojopoajcaaaChecked
import GoSem.Claim
import GoSem.ClaimJoined
import GoSem.ClaimMapViews
import Derived.JoinedTies
import Derived.KernelRfl
namespace Go.Proofs.Ytoehojopoajcaaa
/- THE CELL 'sum', in the pinned program and in every row, IS THE sha256 OF THE DUMP (.gsa) THAT YtoehojopoajcaaaProg.lean LOADS. Nothing in Lean hashes anything: it is a label: what it is worth is what the hold of that sum in a sandbox is worth. -/
noncomputable def Try.pinned : Pinned := { name := "ytoehojopoajcaaa", sum := "3d19bd63785be106ac99c9110022b930f7b2b5c621479cc87148d3a2e0c5149c", checked := Try.checked }
namespace Rows
def none {H : Type} : Left H := { results := [], args := [] }

/-- 'hachurelaw04.PointSums': WHATEVER THE INPUT: true; the input reads as it did. -/
def pointSumsSpec : ChangeSpec := { name := "pointSums", fn := fun _ => fun
  | [d1, d2, d3] => { results := [.lit (.bool true)], args := [d1, d2, d3] }
  | _ => none }
def pointSumsRow : OpenClaim := { program := "ytoehojopoajcaaa", sum := "3d19bd63785be106ac99c9110022b930f7b2b5c621479cc87148d3a2e0c5149c", func := "hachure/hachurelaw04.PointSums", spec := "pointSums", unfollowed := true, recurses := true, apart := false }
def PointSumsSaid : Prop := pointSumsRow.holds Try.pinned (OpenSpec.ofChange pointSumsSpec)

/-- ITS FALSE NEIGHBOUR: 'it returns false'. Refute it at one input. -/
def pointSumsWrong : ChangeSpec := { name := "pointSums", fn := fun _ => fun
  | [d1, d2, d3] => { results := [.lit (.bool false)], args := [d1, d2, d3] }
  | _ => none }
def PointSumsWrongFalsely : Prop := pointSumsRow.holds Try.pinned (OpenSpec.ofChange pointSumsWrong)

/-- 'hachurelaw04.PointSides': WHATEVER THE INPUT: true; the input reads as it did. -/
def pointSidesSpec : ChangeSpec := { name := "pointSides", fn := fun _ => fun
  | [d1, d2] => { results := [.lit (.bool true)], args := [d1, d2] }
  | _ => none }
def pointSidesRow : OpenClaim := { program := "ytoehojopoajcaaa", sum := "3d19bd63785be106ac99c9110022b930f7b2b5c621479cc87148d3a2e0c5149c", func := "hachure/hachurelaw04.PointSides", spec := "pointSides", unfollowed := true, recurses := true, apart := false }
def PointSidesSaid : Prop := pointSidesRow.holds Try.pinned (OpenSpec.ofChange pointSidesSpec)

/-- ITS FALSE NEIGHBOUR: 'it returns false'. Refute it at one input. -/
def pointSidesWrong : ChangeSpec := { name := "pointSides", fn := fun _ => fun
  | [d1, d2] => { results := [.lit (.bool false)], args := [d1, d2] }
  | _ => none }
def PointSidesWrongFalsely : Prop := pointSidesRow.holds Try.pinned (OpenSpec.ofChange pointSidesWrong)

/-- 'hachurelaw04.PointTurns': WHATEVER THE INPUT: true; the input reads as it did. -/
def pointTurnsSpec : ChangeSpec := { name := "pointTurns", fn := fun _ => fun
  | [d1, d2, d3] => { results := [.lit (.bool true)], args := [d1, d2, d3] }
  | _ => none }
def pointTurnsRow : OpenClaim := { program := "ytoehojopoajcaaa", sum := "3d19bd63785be106ac99c9110022b930f7b2b5c621479cc87148d3a2e0c5149c", func := "hachure/hachurelaw04.PointTurns", spec := "pointTurns", unfollowed := true, recurses := true, apart := false }
def PointTurnsSaid : Prop := pointTurnsRow.holds Try.pinned (OpenSpec.ofChange pointTurnsSpec)

/-- ITS FALSE NEIGHBOUR: 'it returns false'. Refute it at one input. -/
def pointTurnsWrong : ChangeSpec := { name := "pointTurns", fn := fun _ => fun
  | [d1, d2, d3] => { results := [.lit (.bool false)], args := [d1, d2, d3] }
  | _ => none }
def PointTurnsWrongFalsely : Prop := pointTurnsRow.holds Try.pinned (OpenSpec.ofChange pointTurnsWrong)

/-- 'hachurelaw04.PointLattice': WHATEVER THE INPUT: true; the input reads as it did. -/
def pointLatticeSpec : ChangeSpec := { name := "pointLattice", fn := fun _ => fun
  | [d] => { results := [.lit (.bool true)], args := [d] }
  | _ => none }
def pointLatticeRow : OpenClaim := { program := "ytoehojopoajcaaa", sum := "3d19bd63785be106ac99c9110022b930f7b2b5c621479cc87148d3a2e0c5149c", func := "hachure/hachurelaw04.PointLattice", spec := "pointLattice", unfollowed := true, recurses := true, apart := false }
def PointLatticeSaid : Prop := pointLatticeRow.holds Try.pinned (OpenSpec.ofChange pointLatticeSpec)

/-- ITS FALSE NEIGHBOUR: 'it returns false'. Refute it at one input. -/
def pointLatticeWrong : ChangeSpec := { name := "pointLattice", fn := fun _ => fun
  | [d] => { results := [.lit (.bool false)], args := [d] }
  | _ => none }
def PointLatticeWrongFalsely : Prop := pointLatticeRow.holds Try.pinned (OpenSpec.ofChange pointLatticeWrong)

/-- 'hachurelaw04.PointMoves': WHATEVER THE INPUT: true; the input reads as it did. -/
def pointMovesSpec : ChangeSpec := { name := "pointMoves", fn := fun _ => fun
  | [d1, d2] => { results := [.lit (.bool true)], args := [d1, d2] }
  | _ => none }
def pointMovesRow : OpenClaim := { program := "ytoehojopoajcaaa", sum := "3d19bd63785be106ac99c9110022b930f7b2b5c621479cc87148d3a2e0c5149c", func := "hachure/hachurelaw04.PointMoves", spec := "pointMoves", unfollowed := true, recurses := true, apart := false }
def PointMovesSaid : Prop := pointMovesRow.holds Try.pinned (OpenSpec.ofChange pointMovesSpec)

/-- ITS FALSE NEIGHBOUR: 'it returns false'. Refute it at one input. -/
def pointMovesWrong : ChangeSpec := { name := "pointMoves", fn := fun _ => fun
  | [d1, d2] => { results := [.lit (.bool false)], args := [d1, d2] }
  | _ => none }
def PointMovesWrongFalsely : Prop := pointMovesRow.holds Try.pinned (OpenSpec.ofChange pointMovesWrong)

/-- 'hachurelaw04.PointSpots': WHATEVER THE INPUT: true; the input reads as it did. -/
def pointSpotsSpec : ChangeSpec := { name := "pointSpots", fn := fun _ => fun
  | [d1, d2, d3] => { results := [.lit (.bool true)], args := [d1, d2, d3] }
  | _ => none }
def pointSpotsRow : OpenClaim := { program := "ytoehojopoajcaaa", sum := "3d19bd63785be106ac99c9110022b930f7b2b5c621479cc87148d3a2e0c5149c", func := "hachure/hachurelaw04.PointSpots", spec := "pointSpots", unfollowed := true, recurses := true, apart := false }
def PointSpotsSaid : Prop := pointSpotsRow.holds Try.pinned (OpenSpec.ofChange pointSpotsSpec)

/-- ITS FALSE NEIGHBOUR: 'it returns false'. Refute it at one input. -/
def pointSpotsWrong : ChangeSpec := { name := "pointSpots", fn := fun _ => fun
  | [d1, d2, d3] => { results := [.lit (.bool false)], args := [d1, d2, d3] }
  | _ => none }
def PointSpotsWrongFalsely : Prop := pointSpotsRow.holds Try.pinned (OpenSpec.ofChange pointSpotsWrong)

/- THE SECOND FORM. 'bulk': how many values and letters a reading holds, each counted each time it is reached (what is shared counts as often as it is met; a slice's spare places count too). A statement '..UptoSaid' is the law's where the arguments, and the package variables that the reading takes, are together of bulk at most 1048576: NARROWER than '..Said'. Prove '..Said' where nothing that the law and all that it calls make is longer than what came in: it says more and counts as full. Else prove '..UptoSaid'. A law counts once. -/
mutual
def uptoBulk {H : Type} : DataW H → Nat
  | .lit (.string bytes) => bytes.length + 1
  | .lit _ => 1
  | .nil => 1
  | .ptr d => uptoBulk d + 1
  | .slice elems spare => uptoBulkAll elems + uptoBulkAll spare + 1
  | .agg parts => uptoBulkAll parts + 1
  | .iface _ d => uptoBulk d + 1
  | .map entries => uptoBulkEntries entries + 1
  | .held _ => 1
def uptoBulkAll {H : Type} : List (DataW H) → Nat
  | [] => 0
  | d :: r => uptoBulk d + uptoBulkAll r
def uptoBulkEntries {H : Type} : List (Lit × DataW H) → Nat
  | [] => 0
  | x :: r => uptoBulkEntry x + uptoBulkEntries r
def uptoBulkEntry {H : Type} : Lit × DataW H → Nat
  | (.string bytes, d) => bytes.length + uptoBulk d + 1
  | (_, d) => uptoBulk d + 1
 end
def uptoSmall : (H : Type) → List (DataW H) → Bool := fun _ ds => decide (uptoBulkAll ds ≤ 1048576)
def OpenSpec.upto (s : _root_.Go.ChangeSpec) : _root_.Go.OpenSpec := { _root_.Go.OpenSpec.ofChange s with cond := some uptoSmall }

/-- 'hachurelaw04.PointSums', WHERE WHAT IT READS IS OF BULK AT MOST 1048576: true; the input reads as it did. -/
def pointSumsUptoRow : OpenClaim := { program := "ytoehojopoajcaaa", sum := "3d19bd63785be106ac99c9110022b930f7b2b5c621479cc87148d3a2e0c5149c", func := "hachure/hachurelaw04.PointSums", spec := "pointSums", unfollowed := true, recurses := true, apart := false, narrowed := true }
def PointSumsUptoSaid : Prop := pointSumsUptoRow.holds Try.pinned (OpenSpec.upto pointSumsSpec)

/-- 'hachurelaw04.PointSides', WHERE WHAT IT READS IS OF BULK AT MOST 1048576: true; the input reads as it did. -/
def pointSidesUptoRow : OpenClaim := { program := "ytoehojopoajcaaa", sum := "3d19bd63785be106ac99c9110022b930f7b2b5c621479cc87148d3a2e0c5149c", func := "hachure/hachurelaw04.PointSides", spec := "pointSides", unfollowed := true, recurses := true, apart := false, narrowed := true }
def PointSidesUptoSaid : Prop := pointSidesUptoRow.holds Try.pinned (OpenSpec.upto pointSidesSpec)

/-- 'hachurelaw04.PointTurns', WHERE WHAT IT READS IS OF BULK AT MOST 1048576: true; the input reads as it did. -/
def pointTurnsUptoRow : OpenClaim := { program := "ytoehojopoajcaaa", sum := "3d19bd63785be106ac99c9110022b930f7b2b5c621479cc87148d3a2e0c5149c", func := "hachure/hachurelaw04.PointTurns", spec := "pointTurns", unfollowed := true, recurses := true, apart := false, narrowed := true }
def PointTurnsUptoSaid : Prop := pointTurnsUptoRow.holds Try.pinned (OpenSpec.upto pointTurnsSpec)

/-- 'hachurelaw04.PointLattice', WHERE WHAT IT READS IS OF BULK AT MOST 1048576: true; the input reads as it did. -/
def pointLatticeUptoRow : OpenClaim := { program := "ytoehojopoajcaaa", sum := "3d19bd63785be106ac99c9110022b930f7b2b5c621479cc87148d3a2e0c5149c", func := "hachure/hachurelaw04.PointLattice", spec := "pointLattice", unfollowed := true, recurses := true, apart := false, narrowed := true }
def PointLatticeUptoSaid : Prop := pointLatticeUptoRow.holds Try.pinned (OpenSpec.upto pointLatticeSpec)

/-- 'hachurelaw04.PointMoves', WHERE WHAT IT READS IS OF BULK AT MOST 1048576: true; the input reads as it did. -/
def pointMovesUptoRow : OpenClaim := { program := "ytoehojopoajcaaa", sum := "3d19bd63785be106ac99c9110022b930f7b2b5c621479cc87148d3a2e0c5149c", func := "hachure/hachurelaw04.PointMoves", spec := "pointMoves", unfollowed := true, recurses := true, apart := false, narrowed := true }
def PointMovesUptoSaid : Prop := pointMovesUptoRow.holds Try.pinned (OpenSpec.upto pointMovesSpec)

/-- 'hachurelaw04.PointSpots', WHERE WHAT IT READS IS OF BULK AT MOST 1048576: true; the input reads as it did. -/
def pointSpotsUptoRow : OpenClaim := { program := "ytoehojopoajcaaa", sum := "3d19bd63785be106ac99c9110022b930f7b2b5c621479cc87148d3a2e0c5149c", func := "hachure/hachurelaw04.PointSpots", spec := "pointSpots", unfollowed := true, recurses := true, apart := false, narrowed := true }
def PointSpotsUptoSaid : Prop := pointSpotsUptoRow.holds Try.pinned (OpenSpec.upto pointSpotsSpec)

end Rows
end Go.Proofs.Ytoehojopoajcaaa
