/- What lies in a block of its own, while other blocks grow; and what stays while digest.Prove goes from level to level. -/
import Derived.Test.YtmgkbkpfhpkbcaaRound
namespace Go.Proofs.Ytmgkbkpfhpkbcaa
open Go.RowKit Go.Lib

/-- A variable's own block. -/
def Var (b : Nat) (T : TypeId) (v : Value) (W : World) : Prop := W.heap[b]? = some (.cells #[v] T (0, 0))
section
variable {b : Nat} {T : TypeId} {v : Value} {W W' : World} {row : Option Nat}
theorem Var.cell (h : Var b T v W) : W.cell? ⟨b, 0, none⟩ = some v := by unfold Var at h; simp [World.cell?, h]
theorem Var.frozen (h : Var b T v W) : W.frozen? ⟨b, 0, none⟩ = false := by unfold Var at h; simp [World.frozen?, h]
theorem Var.lt (h : Var b T v W) : b < W.heap.size := (Array.getElem?_eq_some_iff.1 h).1
theorem Var.grown (h : Var b T v W) (hg : W.grownBy W' row) (hr : row ≠ some b) : Var b T v W' := (hg.block b h.lt (Ne.symm hr)).trans h
theorem Var.later (h : Var b T v W) (hg : Grows W W') : Var b T v W' := heap_grows hg h
theorem Var.made (W : World) (T : TypeId) (v : Value) : Var W.heap.size T v (W.alloc (.cells #[v] T)) := heap_alloc_new W _
theorem Var.set (h : Var b T v W) (u : Value) : Var b T u (W.setCell ⟨b, 0, none⟩ u) := by
  obtain ⟨hlt, hk⟩ := Array.getElem?_eq_some_iff.1 h
  show (W.heap.modify b _)[b]? = _
  rw [Array.getElem?_eq_getElem (by rw [Array.size_modify]; exact hlt), Array.getElem_modify_self, hk]
  rfl
end
theorem grown_set (W : World) (b o : Nat) (u : Value) : W.grownBy (W.setCell ⟨b, o, none⟩ u) (some b) :=
  ⟨rfl, rfl, rfl, by simp, fun k _ hk => Below.heap_setCell W ⟨b, o, none⟩ u k (fun e => hk (by rw [e]))⟩
theorem grown_grows {W W' : World} (g : Grows W W') : W.grownBy W' none := ⟨g.os, g.tape, g.output, g.size, fun k hk _ => g.block k hk⟩
/-- A block of cells is grown: whatever is no cells stays. -/
theorem keeps_grown {B : Nat} {W W' : World} {row : Option Nat} (hg : W.grownBy W' row) (hrow : ∀ r, row = some r → ∃ o, W.heap[r]? = some o ∧ o.isCells = true) : KeepsFrom B W W' :=
  ⟨hg.size, fun k o _ hk ho => (hg.block k (Array.getElem?_eq_some_iff.1 hk).1 (fun e => by
    obtain ⟨o', h1, h2⟩ := hrow k e.symm
    rw [hk] at h1
    cases h1
    rw [ho] at h2
    cases h2)).trans hk⟩
theorem owns_cells {w : World} {B e n : Nat} {v : Value} {xs : List Value} (h : w.ownsRow B e 1 v n xs) : ∀ r, v.ownBlock = some r → ∃ c, w.heap[r]? = some (.cells c e (0, 0)) := by
  intro r hr
  rcases h.2 with ⟨hv, _⟩ | ⟨g, cap, cur, hv, _, hg, _⟩
  · rw [hv] at hr; cases hr
  · rw [hv] at hr; cases hr; exact ⟨_, hg⟩
theorem owns_apart {w : World} {B e n b : Nat} {T : TypeId} {v u : Value} {xs : List Value} (h : w.ownsRow B e 1 v n xs) (hb : Var b T u w) (hT : T ≠ e) : v.ownBlock ≠ some b := by
  intro hr
  obtain ⟨c, hc⟩ := owns_cells h b hr
  unfold Var at hb
  rw [hb] at hc
  cases hc
  exact hT rfl
theorem owns_apart_lev {w : World} {B n g : Nat} {v : Value} {xs : List Value} (h : w.ownsRow B 9 1 v n xs) (hb : Kd g w) : v.ownBlock ≠ some g := by
  intro hr
  obtain ⟨c, hc⟩ := owns_cells h g hr
  obtain ⟨c', hb⟩ := hb
  rw [hb] at hc
  cases hc
theorem Kd.grown {g : Nat} {W W' : World} {row : Option Nat} (h : Kd g W) (hg : W.grownBy W' row) (hr : row ≠ some g) : Kd g W' := by
  obtain ⟨c, h⟩ := h
  exact ⟨c, (hg.block g (Array.getElem?_eq_some_iff.1 h).1 (Ne.symm hr)).trans h⟩
theorem Lev.grown {l : List (List UInt8)} {B g k : Nat} {W W' : World} {row : Option Nat} (h : Lev l B g k W) (hg : W.grownBy W' row) (hr : row ≠ some g) : Lev l B g k W' :=
  ⟨fun j d hd q u hu => hg.cell (h.1 j d hd q u hu) (Ne.symm hr), Nat.lt_of_lt_of_le h.2.1 hg.size, h.2.2.1, h.2.2.2.grown hg hr⟩

/-- Between two rounds: the index's and the proof's variables. -/
structure PI (w : World) (b3 b6 : Nat) (L : List (List UInt8)) (i k : Nat) (W : World) : Prop where
  hk : k ≤ lg L.length
  v3 : Var b3 3 (.int .i64 (i / 2 ^ k : Nat)) W
  v6 : ∃ pv, Var b6 28 pv W ∧ W.ownsRow w.heap.size 9 1 pv k (strs (prvTo L i k))
  g : Grows w W
theorem PI.later {w : World} {b3 b6 : Nat} {L : List (List UInt8)} {i : Nat} (k : Nat) (A B : World) (h : PI w b3 b6 L i k A) (g : Grows A B) : PI w b3 b6 L i k B := by
  obtain ⟨pv, h1, h2⟩ := h.v6
  exact ⟨h.hk, h.v3.later g, ⟨pv, h1.later g, owns_later h2 g⟩, h.g.then g⟩
theorem PI.putObj {w : World} {b3 b6 B : Nat} {L : List (List UInt8)} {i : Nat} (hB : w.heap.size ≤ B) (k : Nat) (W : World) (j : Nat) (ob ob' : Obj) (h : PI w b3 b6 L i k W) (hj : B ≤ j) (ho : W.heap[j]? = some ob) (hc : ob.isCells = false) : PI w b3 b6 L i k (W.putObj j ob') := by
  obtain ⟨pv, h1, h2⟩ := h.v6
  have hne : ∀ {b : Nat} {c : Array Value} {T : TypeId} {f : Nat × Nat}, W.heap[b]? = some (.cells c T f) → (some j : Option Nat) ≠ some b := by
    intro b c T f hb e
    cases e
    rw [ho] at hb
    cases hb
    cases hc
  refine ⟨h.hk, h.v3.grown (grownBy_putObj' W j ob') (hne h.v3), ⟨pv, h1.grown (grownBy_putObj' W j ob') (hne h1), h2.kept (grownBy_putObj' W j ob') ?_⟩, grows_putObj ob' h.g (by omega)⟩
  cases hv : pv.ownBlock with
  | none => exact .inl rfl
  | some r =>
    obtain ⟨c, hc'⟩ := owns_cells h2 r hv
    exact .inr (Ne.symm (hne hc'))
end Go.Proofs.Ytmgkbkpfhpkbcaa
