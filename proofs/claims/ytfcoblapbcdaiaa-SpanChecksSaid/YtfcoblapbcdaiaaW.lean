/- What orders the places that Find found; regions that draw their order: many operations taken first under one check. -/
import Derived.Test.YtfcoblapbcdaiaaO
namespace Go.Proofs.Ytfcoblapbcdaiaa
open Go.RowKit Go.Lib Go.Sort
section
variable {P : Program} {md : Region.Mode} {ops : Array Oper} {Q : Exit → Act → World → Prop} {S T : World → Prop}

/-- A region's condition may be made stronger in its midst. -/
theorem wpAnyH_more (hT : ∀ w, T w → S w) :
    ∀ (fuel : Nat) (listed : Array Bool) (a : Act) (w : World), wpAnyH P md ops Q T fuel listed a w → wpAnyH P md ops Q S fuel listed a w
  | 0, _, _, _, h => h
  | fuel + 1, _, _, _, h => ⟨h.1, fun i hi => wpOp_mono (fun a' w' h' => ⟨hT _ h'.1, wpAnyH_more hT fuel _ a' w' h'.2⟩) (h.2 i hi)⟩

/-- What has come up, written anew. -/
theorem wpAnyH_listed {fuel : Nat} {listed : Array Bool} {a : Act} {w : World} (listed' : Array Bool) (h : listed = listed') (k : wpAnyH P md ops Q S fuel listed' a w) : wpAnyH P md ops Q S fuel listed a w := by
  rw [h]; exact k

/-- These may be taken first, one behind the other. -/
def takesOk (md : Region.Mode) (ops : Array Oper) : Array Bool → List Nat → Bool
  | _, [] => true
  | listed, i :: is => Region.free md ops listed i && ((Region.ready md ops listed).contains i && takesOk md ops (listed.setIfInBounds i true) is)

/-- The walk while they are taken. -/
def wpAnyT (P : Program) (md : Region.Mode) (ops : Array Oper) (Q : Exit → Act → World → Prop) (S : World → Prop) (is : List Nat) (fuel : Nat) (listed : Array Bool) (a : Act) (w : World) : Prop :=
  takesOk md ops listed is = true → Region.noSelect ops = true → wpAnyH P md ops Q S fuel listed a w

theorem wpAnyT_begin {fuel : Nat} {listed : Array Bool} {a : Act} {w : World} (is : List Nat) (ht : takesOk md ops listed is = true) (hn : Region.noSelect ops = true) (h : wpAnyT P md ops Q S is fuel listed a w) : wpAnyH P md ops Q S fuel listed a w := h ht hn
theorem wpAnyT_end {fuel : Nat} {listed : Array Bool} {a : Act} {w : World} (h : wpAnyH P md ops Q S fuel listed a w) : wpAnyT P md ops Q S [] fuel listed a w := fun _ _ => h
theorem wpAnyT_take {i : Nat} {is : List Nat} {oi : Oper} {v : Value} {fuel : Nat} {listed : Array Bool} {a : Act} {w : World} (hi : ops[i]? = some oi)
    (hQ : ∀ c a w, Q (.panic c) (a.put oi.dst v) w → Q (.panic c) a w) (hw : Region.wanted oi (yielded ops a.tmps) = true) (hS : S w) (hy : ∀ w, S w → (execOp a.eval oi).run P w = .ok (.value v) w)
    (h : wpAnyT P md ops Q S is fuel (listed.setIfInBounds i true) (a.put oi.dst v) w) : wpAnyT P md ops Q S (i :: is) (fuel + 1) listed a w := by
  intro ht hn
  simp only [takesOk, Bool.and_eq_true] at ht
  exact wpAnyH_take hi hn ht.1 ht.2.1 hQ (Or.inl ⟨hw, hy⟩) hS (h ht.2.2 hn)
theorem wpAnyT_skip {i : Nat} {is : List Nat} {oi : Oper} {fuel : Nat} {listed : Array Bool} {a : Act} {w : World} (hi : ops[i]? = some oi)
    (hQ : ∀ c a w, Q (.panic c) (a.put oi.dst undef) w → Q (.panic c) a w) (hw : Region.wanted oi (yielded ops a.tmps) = false) (hS : S w)
    (h : wpAnyT P md ops Q S is fuel (listed.setIfInBounds i true) (a.put oi.dst undef) w) : wpAnyT P md ops Q S (i :: is) (fuel + 1) listed a w := by
  intro ht hn
  simp only [takesOk, Bool.and_eq_true] at ht
  exact wpAnyH_take hi hn ht.1 ht.2.1 hQ (Or.inr ⟨hw, rfl⟩) hS (h ht.2.2 hn)
end
end Go.Proofs.Ytfcoblapbcdaiaa
