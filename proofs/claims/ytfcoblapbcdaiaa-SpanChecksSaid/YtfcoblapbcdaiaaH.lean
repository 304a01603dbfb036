/- Blocks of the call's own, and what they hold. -/
import Derived.Test.YtfcoblapbcdaiaaA3
import Derived.Lib.SmallJoins
import Derived.OrdersHeld
import Derived.IntWalk
import Derived.Deep.CutBlock
import Derived.Deep.DeepCutAuto
import Derived.Deep.RegionWith
import Derived.Deep.RegionHeld3
import Derived.BigQuiet
import Derived.Deep.QuietTactic
import Derived.Lib.Hide
import Derived.Handy
import Derived.WalkLawsBesides
import Derived.WalkSpells
import Derived.WalkKit
import Derived.Laws.OwnMore
namespace Go.Proofs.Ytfcoblapbcdaiaa
open Go.RowKit Go.Lib
theorem ret_b {a b : Bool} (h : a = b) : Ending.returned (.bool a) = .returned (.bool b) := by rw [h]
structure Has (w0 : World) (bs : List (Nat × List Value)) (w : World) : Prop where
  c : ∀ p, p ∈ bs → Cells w p.1 p.2
  lt : ∀ p, p ∈ bs → p.1 < w.heap.size
  ge : ∀ p, p ∈ bs → w0.heap.size ≤ p.1
  nd : bs.Pairwise fun p q => p.1 ≠ q.1
  low : Below w0.heap.size w0 w

section
variable {w0 w w' : World} {bs : List (Nat × List Value)}
theorem Has.nil (h : Below w0.heap.size w0 w) : Has w0 [] w := ⟨fun _ h => (by cases h), fun _ h => (by cases h), fun _ h => (by cases h), .nil, h⟩
theorem Has.later (h : Has w0 bs w) (hb : Below w.heap.size w w') : Has w0 bs w' :=
  ⟨fun p hp => (h.c p hp).later hb (h.lt p hp), fun p hp => Nat.lt_of_lt_of_le (h.lt p hp) hb.size, h.ge, h.nd, h.low.trans (hb.mono h.low.size)⟩
theorem Has.alloc (h : Has w0 bs w) (o : Obj) : Has w0 bs (w.alloc o) := h.later ((Below.refl _ w).alloc (Nat.le_refl _) o)
theorem Has.drew (h : Has w0 bs w) : Has w0 bs w.drew := h.later ((Below.refl _ w).drew)
theorem Has.drewN (h : Has w0 bs w) (n : Nat) : Has w0 bs (w.drewN n) := h.later (below_drewN (Below.refl _ w) n)
theorem Has.push (h : Has w0 bs w) (xs : List Value) (T : TypeId) : Has w0 ((w.heap.size, xs) :: bs) (w.alloc (.cells xs.toArray T)) := by
  refine ⟨fun p hp => ?_, fun p hp => ?_, fun p hp => ?_, ?_, (h.alloc _).low⟩
  · rcases List.mem_cons.1 hp with rfl | hp
    · exact Cells.made w xs T
    · exact (h.alloc _).c p hp
  · rcases List.mem_cons.1 hp with rfl | hp
    · simp
    · exact (h.alloc _).lt p hp
  · rcases List.mem_cons.1 hp with rfl | hp
    · exact h.low.size
    · exact h.ge p hp
  · exact List.pairwise_cons.2 ⟨fun p hp e => by have := h.lt p hp; simp only at e; omega, h.nd⟩
theorem Has.fact (h : Has w0 bs w) {p : Nat × List Value} (hp : p ∈ bs) {i : Nat} {v : Value} (hv : p.2[i]? = some v) : w.cell? ⟨p.1, i, none⟩ = some v := ((h.c p hp).get i hv).1
theorem Has.free (h : Has w0 bs w) {p : Nat × List Value} (hp : p ∈ bs) {i : Nat} {v : Value} (hv : p.2[i]? = some v) : w.frozen? ⟨p.1, i, none⟩ = false := ((h.c p hp).get i hv).2
theorem Has.tail {p : Nat × List Value} (h : Has w0 (p :: bs) w) : Has w0 bs w :=
  ⟨fun q hq => h.c q (.tail _ hq), fun q hq => h.lt q (.tail _ hq), fun q hq => h.ge q (.tail _ hq), (List.pairwise_cons.1 h.nd).2, h.low⟩
theorem Has.perm {cs : List (Nat × List Value)} (h : Has w0 bs w) (hp : bs.Perm cs) : Has w0 cs w :=
  ⟨fun q hq => h.c q (hp.mem_iff.2 hq), fun q hq => h.lt q (hp.mem_iff.2 hq), fun q hq => h.ge q (hp.mem_iff.2 hq), (hp.pairwise_iff fun {_ _} h => Ne.symm h).1 h.nd, h.low⟩
theorem Has.swap {p q : Nat × List Value} (h : Has w0 (p :: q :: bs) w) : Has w0 (q :: p :: bs) w := h.perm (.swap _ _ _)
/-- The third is the first. -/
theorem Has.third {p q r : Nat × List Value} (h : Has w0 (p :: q :: r :: bs) w) : Has w0 (r :: p :: q :: bs) w := h.perm ((List.Perm.cons _ (.swap _ _ _)).trans (.swap _ _ _))
theorem Has.set {b : Nat} {xs : List Value} (h : Has w0 ((b, xs) :: bs) w) (k : Nat) (hk : k < xs.length) (u : Value) : Has w0 ((b, xs.set k u) :: bs) (w.setCell ⟨b, k, none⟩ u) := by
  have hge := h.ge (b, xs) (.head _)
  have hnd := List.pairwise_cons.1 h.nd
  refine ⟨fun p hp => ?_, fun p hp => ?_, fun p hp => ?_, List.pairwise_cons.2 ⟨fun p hp => hnd.1 p hp, hnd.2⟩, h.low.setCell (p := ⟨b, k, none⟩) hge u⟩
  · rcases List.mem_cons.1 hp with rfl | hp
    · exact (h.c (b, xs) (.head _)).set k hk u
    · have hn := hnd.1 p hp
      intro i v hv
      obtain ⟨g1, g2⟩ := h.c p (.tail _ hp) i v hv
      refine ⟨?_, by rw [World.frozen?_setCell]; exact g2⟩
      rw [World.cell?_setCell_other (h := by intro e; injection e with e1 _; exact hn e1)]
      exact g1
  · rw [World.size_setCell]
    rcases List.mem_cons.1 hp with rfl | hp
    · exact h.lt (b, xs) (.head _)
    · exact h.lt p (.tail _ hp)
  · rcases List.mem_cons.1 hp with rfl | hp
    · exact hge
    · exact h.ge p (.tail _ hp)
theorem Has.set2 {b : Nat} {u v : Value} (h : Has w0 ((b, [u, v]) :: bs) w) (x y : Value) : Has w0 ((b, [x, y]) :: bs) ((w.setCell ⟨b, 0, none⟩ x).setCell ⟨b, 1, none⟩ y) :=
  (h.set 0 (by simp) x).set 1 (by simp) y
theorem Has.set3 {b : Nat} {u v t : Value} (h : Has w0 ((b, [u, v, t]) :: bs) w) (x y z : Value) : Has w0 ((b, [x, y, z]) :: bs) (((w.setCell ⟨b, 0, none⟩ x).setCell ⟨b, 1, none⟩ y).setCell ⟨b, 2, none⟩ z) :=
  ((h.set 0 (by simp) x).set 1 (by simp) y).set 2 (by simp) z
theorem Has.call {k : FuncId} {args : Array Value} {E : Ending} {P : Program} (h : Has w0 bs w) (hc : Calls P k args w fun e w' => e = E ∧ Below w.heap.size w w') : Calls P k args w fun e w' => e = E ∧ Has w0 bs w' :=
  hc.mono fun _ _ ⟨he, hb⟩ => ⟨he, h.later hb⟩
/-- One point. -/
theorem Has.pt {A : Nat} {a b : Value} (h : Has w0 ((A, [a, b]) :: bs) w) : w.cell? ⟨A, 0, none⟩ = some a ∧ w.cell? ⟨A, 1, none⟩ = some b := ⟨h.fact (.head _) (i := 0) rfl, h.fact (.head _) (i := 1) rfl⟩
theorem Has.ptf {A : Nat} {a b : Value} (h : Has w0 ((A, [a, b]) :: bs) w) : w.frozen? ⟨A, 0, none⟩ = false ∧ w.frozen? ⟨A, 1, none⟩ = false := ⟨h.free (.head _) (i := 0) rfl, h.free (.head _) (i := 1) rfl⟩
/-- Two points. -/
theorem Has.two {A B : Nat} {a b c d : Value} (h : Has w0 ((A, [a, b]) :: (B, [c, d]) :: bs) w) :
    (w.cell? ⟨A, 0, none⟩ = some a ∧ w.cell? ⟨A, 1, none⟩ = some b ∧ w.cell? ⟨B, 0, none⟩ = some c ∧ w.cell? ⟨B, 1, none⟩ = some d) ∧ Has w0 ((A, [a, b]) :: (B, [c, d]) :: bs) w :=
  ⟨⟨h.pt.1, h.pt.2, h.tail.pt.1, h.tail.pt.2⟩, h⟩
/-- A block of the call's own, and two points. -/
theorem Has.fst {A B C : Nat} {xs : List Value} {a b c d : Value} (h : Has w0 ((C, xs) :: (A, [a, b]) :: (B, [c, d]) :: bs) w) :
    (w.cell? ⟨A, 0, none⟩ = some a ∧ w.cell? ⟨A, 1, none⟩ = some b ∧ w.cell? ⟨B, 0, none⟩ = some c ∧ w.cell? ⟨B, 1, none⟩ = some d) ∧ Has w0 ((C, xs) :: (A, [a, b]) :: (B, [c, d]) :: bs) w :=
  ⟨h.tail.two.1, h⟩
/-- Three points. -/
theorem Has.three {A B C : Nat} {a b c d e f : Value} (h : Has w0 ((A, [a, b]) :: (B, [c, d]) :: (C, [e, f]) :: bs) w) :
    (w.cell? ⟨A, 0, none⟩ = some a ∧ w.cell? ⟨A, 1, none⟩ = some b ∧ w.cell? ⟨B, 0, none⟩ = some c ∧ w.cell? ⟨B, 1, none⟩ = some d ∧ w.cell? ⟨C, 0, none⟩ = some e ∧ w.cell? ⟨C, 1, none⟩ = some f) ∧ Has w0 ((A, [a, b]) :: (B, [c, d]) :: (C, [e, f]) :: bs) w :=
  ⟨⟨h.pt.1, h.pt.2, h.tail.pt.1, h.tail.pt.2, h.tail.tail.pt.1, h.tail.tail.pt.2⟩, h⟩
/-- Four points. -/
theorem Has.four {A B C D : Nat} {a b c d e f g k : Value} (h : Has w0 ((A, [a, b]) :: (B, [c, d]) :: (C, [e, f]) :: (D, [g, k]) :: bs) w) :
    (w.cell? ⟨A, 0, none⟩ = some a ∧ w.cell? ⟨A, 1, none⟩ = some b ∧ w.cell? ⟨B, 0, none⟩ = some c ∧ w.cell? ⟨B, 1, none⟩ = some d ∧ w.cell? ⟨C, 0, none⟩ = some e ∧ w.cell? ⟨C, 1, none⟩ = some f ∧ w.cell? ⟨D, 0, none⟩ = some g ∧ w.cell? ⟨D, 1, none⟩ = some k) ∧ Has w0 ((A, [a, b]) :: (B, [c, d]) :: (C, [e, f]) :: (D, [g, k]) :: bs) w :=
  ⟨⟨h.pt.1, h.pt.2, h.tail.pt.1, h.tail.pt.2, h.tail.tail.pt.1, h.tail.tail.pt.2, h.tail.tail.tail.pt.1, h.tail.tail.tail.pt.2⟩, h⟩
/-- Blocks, from where they are boxed: two, three, four. -/
theorem has1 (xs : List Value) (T : TypeId) : Has w [(w.heap.size, xs)] (w.alloc (.cells xs.toArray T)) := (Has.nil (Below.refl _ w)).push xs T
theorem has2 (xs ys : List Value) (T U : TypeId) : Has w [(w.heap.size, xs), (w.heap.size + 1, ys)] ((w.alloc (.cells xs.toArray T)).alloc (.cells ys.toArray U)) := by
  have h := (has1 (w := w) xs T).push ys U
  rw [size_alloc] at h
  exact h.swap
theorem has3 (xs ys zs : List Value) (T U V : TypeId) : Has w [(w.heap.size, xs), (w.heap.size + 1, ys), (w.heap.size + 2, zs)] (((w.alloc (.cells xs.toArray T)).alloc (.cells ys.toArray U)).alloc (.cells zs.toArray V)) := by
  have h := (has2 (w := w) xs ys T U).push zs V
  rw [size_alloc, size_alloc] at h
  exact h.perm ((List.Perm.swap _ _ _).trans (.cons _ (.swap _ _ _)))
theorem has4 (xs ys zs us : List Value) (T U V X : TypeId) : Has w [(w.heap.size, xs), (w.heap.size + 1, ys), (w.heap.size + 2, zs), (w.heap.size + 3, us)] ((((w.alloc (.cells xs.toArray T)).alloc (.cells ys.toArray U)).alloc (.cells zs.toArray V)).alloc (.cells us.toArray X)) := by
  have h := (has3 (w := w) xs ys zs T U V).push us X
  rw [size_alloc, size_alloc, size_alloc] at h
  exact h.perm ((List.Perm.swap _ _ _).trans (.cons _ ((List.Perm.swap _ _ _).trans (.cons _ (.swap _ _ _)))))
end

section
variable {w0 w : World} {bs : List (Nat × List Value)}
theorem Has.pt0 {A : Nat} {a b : Value} {l : List Value} (h : Has w0 ((A, a :: b :: l) :: bs) w) : w.cell? ⟨A, 0, none⟩ = some a ∧ w.cell? ⟨A, 1, none⟩ = some b := ⟨h.fact (.head _) (i := 0) rfl, h.fact (.head _) (i := 1) rfl⟩
theorem Has.ptf0 {A : Nat} {a b : Value} {l : List Value} (h : Has w0 ((A, a :: b :: l) :: bs) w) : w.frozen? ⟨A, 0, none⟩ = false ∧ w.frozen? ⟨A, 1, none⟩ = false := ⟨h.free (.head _) (i := 0) rfl, h.free (.head _) (i := 1) rfl⟩
end

theorem Has.lt0 {w0 w : World} {bs : List (Nat × List Value)} {A : Nat} {l : List Value} (h : Has w0 ((A, l) :: bs) w) : A < w.heap.size := h.lt (A, l) (.head _)

theorem Has.ne2 {w0 w : World} {bs : List (Nat × List Value)} {A B : Nat} {l m : List Value} (h : Has w0 ((A, l) :: (B, m) :: bs) w) : A ≠ B ∧ B ≠ A := ⟨(List.pairwise_cons.1 h.nd).1 (B, m) (.head _), fun e => (List.pairwise_cons.1 h.nd).1 (B, m) (.head _) e.symm⟩

theorem Has.push2 {w0 w : World} {bs : List (Nat × List Value)} (h : Has w0 bs w) (xs ys : List Value) (T U : TypeId) : Has w0 ((w.heap.size + 1, ys) :: (w.heap.size, xs) :: bs) ((w.alloc (.cells xs.toArray T)).alloc (.cells ys.toArray U)) := by
  have := (h.push xs T).push ys U
  rw [size_alloc] at this
  exact this

def Bd (m x y : Int) : Prop := -m ≤ x ∧ x ≤ m ∧ -m ≤ y ∧ y ≤ m

theorem ret_u8 {a b : Int} (h : a = b) : Ending.returned (.int .u8 a) = .returned (.int .u8 b) := by rw [h]
abbrev Grows (w w' : World) : Prop := Below w.heap.size w w'
theorem Grows.then {a b c : World} (h : Grows a b) (k : Grows b c) : Grows a c := Below.trans h (Below.mono k h.size)
end Go.Proofs.Ytfcoblapbcdaiaa
