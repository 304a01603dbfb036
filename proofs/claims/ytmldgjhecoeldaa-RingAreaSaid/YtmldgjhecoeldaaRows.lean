/-
  No cell of these rows narrows 'for every input' (looked for: loops, veiled, ifaces, maps, wideKeys, modest, calm, conditions, laid).
  DERIVED. THE GIVEN ROWS OF THIS SEAT. 7 by the template 'for every input the law returns true; each argument reads behind the call as it read before'; 0 by the template 'total and deterministic' (their statements: YtmldgjhecoeldaaTotals.lean).
  GIVEN WITH THE SEED: the statements are not yours to turn. If you find one false, say at which input.
  Laid BY PROGRAM, IN A SANDBOX (cutbox-rows.mjs): the forced cells as the released guide's own fill.sh prints them over the translation 5ad20b1a8ad83555… (all of the seat's roots in one cut). By AI agents, Wed Nov 11 2026. No macro, syntax, notation, axiom, sorry.
-/
import Derived.Test.YtmldgjhecoeldaaChecked
import GoSem.Claim
import GoSem.ClaimJoined
import GoSem.ClaimMapViews
import Derived.JoinedTies
import Derived.KernelRfl
namespace Go.Proofs.Ytmldgjhecoeldaa
/- THE CELL 'sum', in the pinned program and in every row, IS THE sha256 OF THE DUMP (.gsa) THAT YtmldgjhecoeldaaProg.lean LOADS. Nothing in Lean hashes anything: it is a label: what it is worth is what the hold of that sum in a sandbox is worth. -/
noncomputable def Try.pinned : Pinned := { name := "ytmldgjhecoeldaa", sum := "5ad20b1a8ad83555a9e8a1284df4fe7df0b18a2e380997816a741e1f9f1240c8", checked := Try.checked }
namespace Rows
def none {H : Type} : Left H := { results := [], args := [] }

/-- 'hachurelaw06.RingChecks': WHATEVER THE INPUT: true; the input reads as it did. -/
def ringChecksSpec : ChangeSpec := { name := "ringChecks", fn := fun _ => fun
  | [d1, d2, d3, d4] => { results := [.lit (.bool true)], args := [d1, d2, d3, d4] }
  | _ => none }
def ringChecksRow : OpenClaim := { program := "ytmldgjhecoeldaa", sum := "5ad20b1a8ad83555a9e8a1284df4fe7df0b18a2e380997816a741e1f9f1240c8", func := "hachure/hachurelaw06.RingChecks", spec := "ringChecks", unfollowed := true, recurses := true, apart := false }
def RingChecksSaid : Prop := ringChecksRow.holds Try.pinned (OpenSpec.ofChange ringChecksSpec)

/-- ITS FALSE NEIGHBOUR: 'it returns false'. Refute it at one input. -/
def ringChecksWrong : ChangeSpec := { name := "ringChecks", fn := fun _ => fun
  | [d1, d2, d3, d4] => { results := [.lit (.bool false)], args := [d1, d2, d3, d4] }
  | _ => none }
def RingChecksWrongFalsely : Prop := ringChecksRow.holds Try.pinned (OpenSpec.ofChange ringChecksWrong)

/-- 'hachurelaw06.RingInside': WHATEVER THE INPUT: true; the input reads as it did. -/
def ringInsideSpec : ChangeSpec := { name := "ringInside", fn := fun _ => fun
  | [d1, d2, d3] => { results := [.lit (.bool true)], args := [d1, d2, d3] }
  | _ => none }
def ringInsideRow : OpenClaim := { program := "ytmldgjhecoeldaa", sum := "5ad20b1a8ad83555a9e8a1284df4fe7df0b18a2e380997816a741e1f9f1240c8", func := "hachure/hachurelaw06.RingInside", spec := "ringInside", unfollowed := true, recurses := true, apart := false }
def RingInsideSaid : Prop := ringInsideRow.holds Try.pinned (OpenSpec.ofChange ringInsideSpec)

/-- ITS FALSE NEIGHBOUR: 'it returns false'. Refute it at one input. -/
def ringInsideWrong : ChangeSpec := { name := "ringInside", fn := fun _ => fun
  | [d1, d2, d3] => { results := [.lit (.bool false)], args := [d1, d2, d3] }
  | _ => none }
def RingInsideWrongFalsely : Prop := ringInsideRow.holds Try.pinned (OpenSpec.ofChange ringInsideWrong)

/-- 'hachurelaw06.RingRays': WHATEVER THE INPUT: true; the input reads as it did. -/
def ringRaysSpec : ChangeSpec := { name := "ringRays", fn := fun _ => fun
  | [d1, d2] => { results := [.lit (.bool true)], args := [d1, d2] }
  | _ => none }
def ringRaysRow : OpenClaim := { program := "ytmldgjhecoeldaa", sum := "5ad20b1a8ad83555a9e8a1284df4fe7df0b18a2e380997816a741e1f9f1240c8", func := "hachure/hachurelaw06.RingRays", spec := "ringRays", unfollowed := true, recurses := true, apart := false }
def RingRaysSaid : Prop := ringRaysRow.holds Try.pinned (OpenSpec.ofChange ringRaysSpec)

/-- ITS FALSE NEIGHBOUR: 'it returns false'. Refute it at one input. -/
def ringRaysWrong : ChangeSpec := { name := "ringRays", fn := fun _ => fun
  | [d1, d2] => { results := [.lit (.bool false)], args := [d1, d2] }
  | _ => none }
def RingRaysWrongFalsely : Prop := ringRaysRow.holds Try.pinned (OpenSpec.ofChange ringRaysWrong)

/-- 'hachurelaw06.RingSpots': WHATEVER THE INPUT: true; the input reads as it did. -/
def ringSpotsSpec : ChangeSpec := { name := "ringSpots", fn := fun _ => fun
  | [d1, d2] => { results := [.lit (.bool true)], args := [d1, d2] }
  | _ => none }
def ringSpotsRow : OpenClaim := { program := "ytmldgjhecoeldaa", sum := "5ad20b1a8ad83555a9e8a1284df4fe7df0b18a2e380997816a741e1f9f1240c8", func := "hachure/hachurelaw06.RingSpots", spec := "ringSpots", unfollowed := true, recurses := true, apart := false }
def RingSpotsSaid : Prop := ringSpotsRow.holds Try.pinned (OpenSpec.ofChange ringSpotsSpec)

/-- ITS FALSE NEIGHBOUR: 'it returns false'. Refute it at one input. -/
def ringSpotsWrong : ChangeSpec := { name := "ringSpots", fn := fun _ => fun
  | [d1, d2] => { results := [.lit (.bool false)], args := [d1, d2] }
  | _ => none }
def RingSpotsWrongFalsely : Prop := ringSpotsRow.holds Try.pinned (OpenSpec.ofChange ringSpotsWrong)

/-- 'hachurelaw06.RingArea': WHATEVER THE INPUT: true; the input reads as it did. -/
def ringAreaSpec : ChangeSpec := { name := "ringArea", fn := fun _ => fun
  | [d1, d2, d3, d4] => { results := [.lit (.bool true)], args := [d1, d2, d3, d4] }
  | _ => none }
def ringAreaRow : OpenClaim := { program := "ytmldgjhecoeldaa", sum := "5ad20b1a8ad83555a9e8a1284df4fe7df0b18a2e380997816a741e1f9f1240c8", func := "hachure/hachurelaw06.RingArea", spec := "ringArea", unfollowed := true, recurses := true, apart := false }
def RingAreaSaid : Prop := ringAreaRow.holds Try.pinned (OpenSpec.ofChange ringAreaSpec)

/-- ITS FALSE NEIGHBOUR: 'it returns false'. Refute it at one input. -/
def ringAreaWrong : ChangeSpec := { name := "ringArea", fn := fun _ => fun
  | [d1, d2, d3, d4] => { results := [.lit (.bool false)], args := [d1, d2, d3, d4] }
  | _ => none }
def RingAreaWrongFalsely : Prop := ringAreaRow.holds Try.pinned (OpenSpec.ofChange ringAreaWrong)

/-- 'hachurelaw06.RingMoves': WHATEVER THE INPUT: true; the input reads as it did. -/
def ringMovesSpec : ChangeSpec := { name := "ringMoves", fn := fun _ => fun
  | [d1, d2, d3, d4] => { results := [.lit (.bool true)], args := [d1, d2, d3, d4] }
  | _ => none }
def ringMovesRow : OpenClaim := { program := "ytmldgjhecoeldaa", sum := "5ad20b1a8ad83555a9e8a1284df4fe7df0b18a2e380997816a741e1f9f1240c8", func := "hachure/hachurelaw06.RingMoves", spec := "ringMoves", unfollowed := true, recurses := true, apart := false }
def RingMovesSaid : Prop := ringMovesRow.holds Try.pinned (OpenSpec.ofChange ringMovesSpec)

/-- ITS FALSE NEIGHBOUR: 'it returns false'. Refute it at one input. -/
def ringMovesWrong : ChangeSpec := { name := "ringMoves", fn := fun _ => fun
  | [d1, d2, d3, d4] => { results := [.lit (.bool false)], args := [d1, d2, d3, d4] }
  | _ => none }
def RingMovesWrongFalsely : Prop := ringMovesRow.holds Try.pinned (OpenSpec.ofChange ringMovesWrong)

/-- 'hachurelaw06.RingPick': WHATEVER THE INPUT: true; the input reads as it did. -/
def ringPickSpec : ChangeSpec := { name := "ringPick", fn := fun _ => fun
  | [d] => { results := [.lit (.bool true)], args := [d] }
  | _ => none }
def ringPickRow : OpenClaim := { program := "ytmldgjhecoeldaa", sum := "5ad20b1a8ad83555a9e8a1284df4fe7df0b18a2e380997816a741e1f9f1240c8", func := "hachure/hachurelaw06.RingPick", spec := "ringPick", unfollowed := true, recurses := true, apart := false }
def RingPickSaid : Prop := ringPickRow.holds Try.pinned (OpenSpec.ofChange ringPickSpec)

/-- ITS FALSE NEIGHBOUR: 'it returns false'. Refute it at one input. -/
def ringPickWrong : ChangeSpec := { name := "ringPick", fn := fun _ => fun
  | [d] => { results := [.lit (.bool false)], args := [d] }
  | _ => none }
def RingPickWrongFalsely : Prop := ringPickRow.holds Try.pinned (OpenSpec.ofChange ringPickWrong)

/- THE SECOND FORM. 'bulk': how many values and letters a reading holds, each counted each time it is reached (what is shared counts as often as it is met; a slice's spare places count too). A statement '..UptoSaid' is the law's where the arguments, and the package variables that the reading takes, are together of bulk at most 1048576: NARROWER than '..Said'. Prove '..Said' where nothing that the law and all that it calls make is longer than what came in: it says more and counts as full. Else prove '..UptoSaid'. A law counts once. -/
mutual
def uptoBulk {H : Type} : DataW H → Nat
  | .lit (.string bytes) => bytes.length + 1
  | .lit _ => 1
  | .nil => 1
  | .ptr d => uptoBulk d + 1
  | .slice elems spare => uptoBulkAll elems + uptoBulkAll spare + 1
  | .agg parts => uptoBulkAll parts + 1
  | .iface _ d => uptoBulk d + 1
  | .map entries => uptoBulkEntries entries + 1
  | .held _ => 1
def uptoBulkAll {H : Type} : List (DataW H) → Nat
  | [] => 0
  | d :: r => uptoBulk d + uptoBulkAll r
def uptoBulkEntries {H : Type} : List (Lit × DataW H) → Nat
  | [] => 0
  | x :: r => uptoBulkEntry x + uptoBulkEntries r
def uptoBulkEntry {H : Type} : Lit × DataW H → Nat
  | (.string bytes, d) => bytes.length + uptoBulk d + 1
  | (_, d) => uptoBulk d + 1
 end
def uptoSmall : (H : Type) → List (DataW H) → Bool := fun _ ds => decide (uptoBulkAll ds ≤ 1048576)
def OpenSpec.upto (s : _root_.Go.ChangeSpec) : _root_.Go.OpenSpec := { _root_.Go.OpenSpec.ofChange s with cond := some uptoSmall }

/-- 'hachurelaw06.RingChecks', WHERE WHAT IT READS IS OF BULK AT MOST 1048576: true; the input reads as it did. -/
def ringChecksUptoRow : OpenClaim := { program := "ytmldgjhecoeldaa", sum := "5ad20b1a8ad83555a9e8a1284df4fe7df0b18a2e380997816a741e1f9f1240c8", func := "hachure/hachurelaw06.RingChecks", spec := "ringChecks", unfollowed := true, recurses := true, apart := false, narrowed := true }
def RingChecksUptoSaid : Prop := ringChecksUptoRow.holds Try.pinned (OpenSpec.upto ringChecksSpec)

/-- 'hachurelaw06.RingInside', WHERE WHAT IT READS IS OF BULK AT MOST 1048576: true; the input reads as it did. -/
def ringInsideUptoRow : OpenClaim := { program := "ytmldgjhecoeldaa", sum := "5ad20b1a8ad83555a9e8a1284df4fe7df0b18a2e380997816a741e1f9f1240c8", func := "hachure/hachurelaw06.RingInside", spec := "ringInside", unfollowed := true, recurses := true, apart := false, narrowed := true }
def RingInsideUptoSaid : Prop := ringInsideUptoRow.holds Try.pinned (OpenSpec.upto ringInsideSpec)

/-- 'hachurelaw06.RingRays', WHERE WHAT IT READS IS OF BULK AT MOST 1048576: true; the input reads as it did. -/
def ringRaysUptoRow : OpenClaim := { program := "ytmldgjhecoeldaa", sum := "5ad20b1a8ad83555a9e8a1284df4fe7df0b18a2e380997816a741e1f9f1240c8", func := "hachure/hachurelaw06.RingRays", spec := "ringRays", unfollowed := true, recurses := true, apart := false, narrowed := true }
def RingRaysUptoSaid : Prop := ringRaysUptoRow.holds Try.pinned (OpenSpec.upto ringRaysSpec)

/-- 'hachurelaw06.RingSpots', WHERE WHAT IT READS IS OF BULK AT MOST 1048576: true; the input reads as it did. -/
def ringSpotsUptoRow : OpenClaim := { program := "ytmldgjhecoeldaa", sum := "5ad20b1a8ad83555a9e8a1284df4fe7df0b18a2e380997816a741e1f9f1240c8", func := "hachure/hachurelaw06.RingSpots", spec := "ringSpots", unfollowed := true, recurses := true, apart := false, narrowed := true }
def RingSpotsUptoSaid : Prop := ringSpotsUptoRow.holds Try.pinned (OpenSpec.upto ringSpotsSpec)

/-- 'hachurelaw06.RingArea', WHERE WHAT IT READS IS OF BULK AT MOST 1048576: true; the input reads as it did. -/
def ringAreaUptoRow : OpenClaim := { program := "ytmldgjhecoeldaa", sum := "5ad20b1a8ad83555a9e8a1284df4fe7df0b18a2e380997816a741e1f9f1240c8", func := "hachure/hachurelaw06.RingArea", spec := "ringArea", unfollowed := true, recurses := true, apart := false, narrowed := true }
def RingAreaUptoSaid : Prop := ringAreaUptoRow.holds Try.pinned (OpenSpec.upto ringAreaSpec)

/-- 'hachurelaw06.RingMoves', WHERE WHAT IT READS IS OF BULK AT MOST 1048576: true; the input reads as it did. -/
def ringMovesUptoRow : OpenClaim := { program := "ytmldgjhecoeldaa", sum := "5ad20b1a8ad83555a9e8a1284df4fe7df0b18a2e380997816a741e1f9f1240c8", func := "hachure/hachurelaw06.RingMoves", spec := "ringMoves", unfollowed := true, recurses := true, apart := false, narrowed := true }
def RingMovesUptoSaid : Prop := ringMovesUptoRow.holds Try.pinned (OpenSpec.upto ringMovesSpec)

/-- 'hachurelaw06.RingPick', WHERE WHAT IT READS IS OF BULK AT MOST 1048576: true; the input reads as it did. -/
def ringPickUptoRow : OpenClaim := { program := "ytmldgjhecoeldaa", sum := "5ad20b1a8ad83555a9e8a1284df4fe7df0b18a2e380997816a741e1f9f1240c8", func := "hachure/hachurelaw06.RingPick", spec := "ringPick", unfollowed := true, recurses := true, apart := false, narrowed := true }
def RingPickUptoSaid : Prop := ringPickUptoRow.holds Try.pinned (OpenSpec.upto ringPickSpec)

end Rows
end Go.Proofs.Ytmldgjhecoeldaa
