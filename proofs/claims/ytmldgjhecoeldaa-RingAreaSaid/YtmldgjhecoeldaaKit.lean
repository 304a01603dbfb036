/- More words for the walks of the laws. More words for the walks of the laws. Words for the walks of line: points in memory, what a round keeps. -/
import Derived.Test.YtmldgjhecoeldaaLaw
import Derived.Test.YtmldgjhecoeldaaROn
import Derived.Test.YtmldgjhecoeldaaRMeet
import Derived.Test.YtmldgjhecoeldaaRSide
import Derived.Test.YtmldgjhecoeldaaGeoe
import Derived.Test.YtmldgjhecoeldaaSeg
import Derived.Test.YtmldgjhecoeldaaBx
import Derived.Test.YtmldgjhecoeldaaRoot
namespace Go.Proofs.Ytmldgjhecoeldaa
open Go.RowKit Go.Lib

theorem ron_is (a0 a1 b0 b1 p0 p1 : Int) (r : Bool) (h : onOf a0 a1 b0 b1 p0 p1 = r) (w : World) :
    Calls Try.prog 37 #[.agg #[.int .i64 a0, .int .i64 a1], .agg #[.int .i64 b0, .int .i64 b1], .agg #[.int .i64 p0, .int .i64 p1]] w fun e w' => e = .returned (.bool r) ∧ Below w.heap.size w w' := by
  have := ron_any a0 a1 b0 b1 p0 p1 w
  rw [Geo.on_same, h] at this
  exact this

end Go.Proofs.Ytmldgjhecoeldaa

namespace Go.Proofs.Ytmldgjhecoeldaa
open Go.RowKit Go.Lib

theorem Has.ten {w0 w : World} {bs : List (Nat × List Value)} {A B : Nat} {c0 c1 d0 d1 d2 d3 d4 d5 d6 d7 : Value} (h : Has w0 ((A, [c0, c1]) :: (B, [d0, d1, d2, d3, d4, d5, d6, d7]) :: bs) w) :
    (w.cell? ⟨A, 0, none⟩ = some c0 ∧ w.cell? ⟨A, 1, none⟩ = some c1 ∧ w.cell? ⟨B, 0, none⟩ = some d0 ∧ w.cell? ⟨B, 1, none⟩ = some d1 ∧ w.cell? ⟨B, 2, none⟩ = some d2 ∧ w.cell? ⟨B, 3, none⟩ = some d3 ∧ w.cell? ⟨B, 4, none⟩ = some d4 ∧ w.cell? ⟨B, 5, none⟩ = some d5 ∧ w.cell? ⟨B, 6, none⟩ = some d6 ∧ w.cell? ⟨B, 7, none⟩ = some d7) ∧ Has w0 ((A, [c0, c1]) :: (B, [d0, d1, d2, d3, d4, d5, d6, d7]) :: bs) w :=
  ⟨⟨h.fact (.head _) (i := 0) rfl, h.fact (.head _) (i := 1) rfl, h.tail.fact (.head _) (i := 0) rfl, h.tail.fact (.head _) (i := 1) rfl, h.tail.fact (.head _) (i := 2) rfl, h.tail.fact (.head _) (i := 3) rfl, h.tail.fact (.head _) (i := 4) rfl, h.tail.fact (.head _) (i := 5) rfl, h.tail.fact (.head _) (i := 6) rfl, h.tail.fact (.head _) (i := 7) rfl⟩, h⟩

end Go.Proofs.Ytmldgjhecoeldaa

namespace Go.Proofs.Ytmldgjhecoeldaa
open Go.RowKit Go.Lib

/-- A point as a value; whether it is right. -/
def pv (p : Int × Int) : Value := .agg #[.int .i64 p.1, .int .i64 p.2]
def rtP (p : Int × Int) : Bool := inl 16384 p.1 p.2

theorem RowP.len {w : World} {a : Option Addr} {n c : Nat} {ps : List (Int × Int)} (h : RowP w (.slice a n c) ps) : n = ps.length ∧ ps.length ≤ c ∧ (c : Int) ≤ 9223372036854775807 := by
  obtain ⟨a', c', h1, h2, h3, -⟩ := h
  injection h1 with _ e2 e3
  subst e3
  exact ⟨e2, h2, h3⟩
theorem RowP.spot {w : World} {a : Option Addr} {n c : Nat} {ps : List (Int × Int)} (h : RowP w (.slice a n c) ps) (hp : 0 < ps.length) :
    ∃ b o, a = some ⟨b, o, none⟩ ∧ ∀ i p, ps[i]? = some p → w.cell? ⟨b, o + i * 2, none⟩ = some (.int .i64 p.1) ∧ w.cell? ⟨b, o + i * 2 + 1, none⟩ = some (.int .i64 p.2) := by
  obtain ⟨a', c', h1, h2, h3, h4⟩ := h
  injection h1 with e1 _ _
  subst e1
  rcases h4 with rfl | h4
  · simp at hp
  · exact h4
/-- The cells of the i-th point. -/
theorem RowP.cells {w : World} {b o n c : Nat} {ps : List (Int × Int)} (h : RowP w (.slice (some ⟨b, o, none⟩) n c) ps) {i : Nat} {x y : Int} (hi : ps[i]? = some (x, y)) :
    w.cell? ⟨b, o + i * 2, none⟩ = some (.int .i64 x) ∧ w.cell? ⟨b, o + i * 2 + 1, none⟩ = some (.int .i64 y) := by
  obtain ⟨b', o', e, hq⟩ := h.spot (by have := (List.getElem?_eq_some_iff.1 hi).1; omega)
  injection e with e
  injection e with e1 e2
  subst e1 e2
  exact hq i _ hi
theorem some_pt {ps : List (Int × Int)} {k : Nat} (h : k < ps.length) : ∃ x y, ps[k]? = some (x, y) := ⟨_, _, List.getElem?_eq_getElem h⟩
theorem pt_of {ps : List (Int × Int)} {k : Nat} {x y : Int} (h : ps[k]? = some (x, y)) : pt ps k = (x, y) := by unfold pt; rw [h]; rfl
theorem at_pt {ps : List (Int × Int)} {k : Nat} (h : k < ps.length) : ps[k]? = some (pt ps k) := by unfold pt; rw [List.getElem?_eq_getElem h]; rfl

theorem keeps_grows {B : Nat} {A W : World} (g : Grows A W) : KeepsFrom B A W :=
  ⟨g.size, fun _ _ _ h _ => heap_grows g h⟩
theorem keeps_set {B : Nat} (W : World) (a : Addr) (v : Value) : KeepsFrom B W (W.setCell a v) := (KeepsOthers.setCell W a v).from B

/-- What a round has: blocks of the call's own, and what is no cells lies as it lay. -/
structure HK (w : World) (B : Nat) (A : World) (bs : List (Nat × List Value)) (W : World) : Prop where
  h : Has w bs W
  k : KeepsFrom B A W
section
variable {w A W W' : World} {B : Nat} {bs : List (Nat × List Value)}
theorem HK.start (h : Has w bs A) : HK w B A bs A := ⟨h, KeepsFrom.refl _ _⟩
theorem HK.later (h : HK w B A bs W) (g : Below W.heap.size W W') : HK w B A bs W' := ⟨h.h.later g, h.k.trans (keeps_grows g)⟩
theorem HK.drew (h : HK w B A bs W) : HK w B A bs W.drew := h.later ((Below.refl _ W).drew)
theorem HK.push (h : HK w B A bs W) (xs : List Value) (T : TypeId) : HK w B A ((W.heap.size, xs) :: bs) (W.alloc (.cells xs.toArray T)) := ⟨h.h.push xs T, h.k.trans (keeps_grows ((Below.refl _ W).alloc (Nat.le_refl _) _))⟩
theorem HK.set {b : Nat} {xs : List Value} (h : HK w B A ((b, xs) :: bs) W) (k : Nat) (hk : k < xs.length) (u : Value) : HK w B A ((b, xs.set k u) :: bs) (W.setCell ⟨b, k, none⟩ u) := ⟨h.h.set k hk u, h.k.trans (keeps_set _ _ _)⟩
theorem HK.set2 {b : Nat} {u v : Value} (h : HK w B A ((b, [u, v]) :: bs) W) (x y : Value) : HK w B A ((b, [x, y]) :: bs) ((W.setCell ⟨b, 0, none⟩ x).setCell ⟨b, 1, none⟩ y) := ⟨h.h.set2 x y, (h.k.trans (keeps_set _ _ _)).trans (keeps_set _ _ _)⟩
theorem HK.set4 {b : Nat} {u v t r : Value} (h : HK w B A ((b, [u, v, t, r]) :: bs) W) (x y z q : Value) : HK w B A ((b, [x, y, z, q]) :: bs) ((((W.setCell ⟨b, 0, none⟩ x).setCell ⟨b, 1, none⟩ y).setCell ⟨b, 2, none⟩ z).setCell ⟨b, 3, none⟩ q) :=
  (((h.set 0 (by simp) x).set 1 (by simp) y).set 2 (by simp) z).set 3 (by simp) q
theorem HK.perm {cs : List (Nat × List Value)} (h : HK w B A bs W) (hp : bs.Perm cs) : HK w B A cs W := ⟨h.h.perm hp, h.k⟩
theorem HK.swap {p q : Nat × List Value} (h : HK w B A (p :: q :: bs) W) : HK w B A (q :: p :: bs) W := ⟨h.h.swap, h.k⟩
theorem HK.tail {p : Nat × List Value} (h : HK w B A (p :: bs) W) : HK w B A bs W := ⟨h.h.tail, h.k⟩
end
theorem HK.call {w A W : World} {B : Nat} {bs : List (Nat × List Value)} {k : FuncId} {args : Array Value} {E : Ending} {P : Program} (h : HK w B A bs W) (hc : Calls P k args W fun e w' => e = E ∧ Below W.heap.size W w') : Calls P k args W fun e w' => e = E ∧ HK w B A bs w' :=
  hc.mono fun _ _ ⟨h1, h2⟩ => ⟨h1, h.later h2⟩
/-- A call in a round. -/
theorem round_call {l n : Nat} {k : FuncId} {args : Array Value} {W : World} {R : Ending → World → Prop} (h : Calls Try.prog k args W R) : CallsIn (Fence.wide.inRound l) n Try.prog k args W R := CallsIn.inRound l (callsIn_wide.2 h)
theorem Has.set4 {w0 w : World} {bs : List (Nat × List Value)} {b : Nat} {u v t r : Value} (h : Has w0 ((b, [u, v, t, r]) :: bs) w) (x y z q : Value) : Has w0 ((b, [x, y, z, q]) :: bs) ((((w.setCell ⟨b, 0, none⟩ x).setCell ⟨b, 1, none⟩ y).setCell ⟨b, 2, none⟩ z).setCell ⟨b, 3, none⟩ q) :=
  (((h.set 0 (by simp) x).set 1 (by simp) y).set 2 (by simp) z).set 3 (by simp) q
theorem onCells_has {w : World} {B : Nat} {bs : List (Nat × List Value)} (h : w.heap.size ≤ B) : OnCells B (fun W => Has w bs W) := fun _ _ _ _ hh hl ho hc => hh.putObj (by omega) ho hc

end Go.Proofs.Ytmldgjhecoeldaa
