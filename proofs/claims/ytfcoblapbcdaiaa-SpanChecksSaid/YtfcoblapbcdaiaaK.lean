/- What a round of a range over a function has. -/
import Derived.Test.YtfcoblapbcdaiaaE1
namespace Go.Proofs.Ytfcoblapbcdaiaa
open Go.RowKit Go.Lib
theorem Has.putObj {w0 W : World} {bs : List (Nat × List Value)} {i : Nat} {ob ob' : Obj} (h : Has w0 bs W) (hi : w0.heap.size ≤ i) (ho : W.heap[i]? = some ob) (hc : ob.isCells = false) : Has w0 bs (W.putObj i ob') :=
  ⟨fun p hp j v hv => by
      obtain ⟨h1, h2⟩ := h.c p hp j v hv
      exact ⟨cell_kept h1 (grownBy_putObj' W i ob') (fun r e => by cases e; exact ⟨ob, ho, hc⟩), (frozen_kept h1 (grownBy_putObj' W i ob') (fun r e => by cases e; exact ⟨ob, ho, hc⟩)).trans h2⟩,
    fun p hp => by rw [World.putObj_size]; exact h.lt p hp, h.ge, h.nd, grows_putObj ob' h.low hi⟩
theorem keeps_drew (B : Nat) (W : World) : KeepsFrom B W W.drew := ⟨Nat.le_refl _, fun _ _ _ h _ => h⟩
theorem keeps_cell {B b o : Nat} (W : World) (v : Value) (h : b < B) : KeepsFrom B W (W.setCell ⟨b, o, none⟩ v) :=
  ⟨by rw [World.size_setCell]; exact Nat.le_refl _, fun k ob hk ho _ => (Below.heap_setCell W ⟨b, o, none⟩ v k (by show k ≠ b; omega)).trans ho⟩

theorem keeps_grows {B : Nat} {A W : World} (g : Grows A W) : KeepsFrom B A W :=
  ⟨g.size, fun _ _ _ h _ => heap_grows g h⟩
theorem keeps_set {B : Nat} (W : World) (a : Addr) (v : Value) : KeepsFrom B W (W.setCell a v) := (KeepsOthers.setCell W a v).from B

/-- What a round has: blocks of the call's own, and what is no cells lies as it lay. -/
structure HK (w : World) (B : Nat) (A : World) (bs : List (Nat × List Value)) (W : World) : Prop where
  h : Has w bs W
  k : KeepsFrom B A W
section
variable {w A W W' : World} {B : Nat} {bs : List (Nat × List Value)}
theorem HK.start (h : Has w bs A) : HK w B A bs A := ⟨h, KeepsFrom.refl _ _⟩
theorem HK.later (h : HK w B A bs W) (g : Below W.heap.size W W') : HK w B A bs W' := ⟨h.h.later g, h.k.trans (keeps_grows g)⟩
theorem HK.drew (h : HK w B A bs W) : HK w B A bs W.drew := h.later ((Below.refl _ W).drew)
theorem HK.push (h : HK w B A bs W) (xs : List Value) (T : TypeId) : HK w B A ((W.heap.size, xs) :: bs) (W.alloc (.cells xs.toArray T)) := ⟨h.h.push xs T, h.k.trans (keeps_grows ((Below.refl _ W).alloc (Nat.le_refl _) _))⟩
theorem HK.set {b : Nat} {xs : List Value} (h : HK w B A ((b, xs) :: bs) W) (k : Nat) (hk : k < xs.length) (u : Value) : HK w B A ((b, xs.set k u) :: bs) (W.setCell ⟨b, k, none⟩ u) := ⟨h.h.set k hk u, h.k.trans (keeps_set _ _ _)⟩
theorem HK.set2 {b : Nat} {u v : Value} (h : HK w B A ((b, [u, v]) :: bs) W) (x y : Value) : HK w B A ((b, [x, y]) :: bs) ((W.setCell ⟨b, 0, none⟩ x).setCell ⟨b, 1, none⟩ y) := ⟨h.h.set2 x y, (h.k.trans (keeps_set _ _ _)).trans (keeps_set _ _ _)⟩
theorem HK.set4 {b : Nat} {u v t r : Value} (h : HK w B A ((b, [u, v, t, r]) :: bs) W) (x y z q : Value) : HK w B A ((b, [x, y, z, q]) :: bs) ((((W.setCell ⟨b, 0, none⟩ x).setCell ⟨b, 1, none⟩ y).setCell ⟨b, 2, none⟩ z).setCell ⟨b, 3, none⟩ q) :=
  (((h.set 0 (by simp) x).set 1 (by simp) y).set 2 (by simp) z).set 3 (by simp) q
theorem HK.perm {cs : List (Nat × List Value)} (h : HK w B A bs W) (hp : bs.Perm cs) : HK w B A cs W := ⟨h.h.perm hp, h.k⟩
theorem HK.swap {p q : Nat × List Value} (h : HK w B A (p :: q :: bs) W) : HK w B A (q :: p :: bs) W := ⟨h.h.swap, h.k⟩
theorem HK.tail {p : Nat × List Value} (h : HK w B A (p :: bs) W) : HK w B A bs W := ⟨h.h.tail, h.k⟩
end
theorem HK.call {w A W : World} {B : Nat} {bs : List (Nat × List Value)} {k : FuncId} {args : Array Value} {E : Ending} {P : Program} (h : HK w B A bs W) (hc : Calls P k args W fun e w' => e = E ∧ Below W.heap.size W w') : Calls P k args W fun e w' => e = E ∧ HK w B A bs w' :=
  hc.mono fun _ _ ⟨h1, h2⟩ => ⟨h1, h.later h2⟩
/-- A call in a round. -/
theorem round_call {l n : Nat} {k : FuncId} {args : Array Value} {W : World} {R : Ending → World → Prop} (h : Calls Try.prog k args W R) : CallsIn (Fence.wide.inRound l) n Try.prog k args W R := CallsIn.inRound l (callsIn_wide.2 h)
theorem onCells_has {w : World} {B : Nat} {bs : List (Nat × List Value)} (h : w.heap.size ≤ B) : OnCells B (fun W => Has w bs W) := fun _ _ _ _ hh hl ho hc => hh.putObj (by omega) ho hc
theorem keeps_mono {B B' : Nat} {X Y : World} (h : KeepsFrom B X Y) (hB : B ≤ B') : KeepsFrom B' X Y := ⟨h.size, fun k o hk => h.same k o (Nat.le_trans hB hk)⟩
theorem HK.putObj {w A W : World} {B i : Nat} {bs : List (Nat × List Value)} {ob ob' : Obj} (h : HK w B A bs W) (hi : w.heap.size ≤ i) (hA : A.heap.size ≤ i) (ho : W.heap[i]? = some ob) (hc : ob.isCells = false) : HK w B A bs (W.putObj i ob') :=
  ⟨h.h.putObj hi ho hc, ⟨by rw [World.putObj_size]; exact h.k.size, fun k o hk h1 h2 => (World.putObj_heap_other (by have := (Array.getElem?_eq_some_iff.1 h1).1; omega)).trans (h.k.same k o hk h1 h2)⟩⟩
end Go.Proofs.Ytfcoblapbcdaiaa
