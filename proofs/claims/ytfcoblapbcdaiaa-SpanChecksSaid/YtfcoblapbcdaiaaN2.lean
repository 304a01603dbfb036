/- A list of events of the call's own, as a block: an event is written anew. -/
import Derived.Test.YtfcoblapbcdaiaaM1
namespace Go.Proofs.Ytfcoblapbcdaiaa
open Go.RowKit Go.Lib Go.Sort
section
variable {α : Type} {T : Ty α}
theorem own_empty {b : Nat} (w : World) (E : TypeId) (hE : b ≤ w.heap.size) (he : T.e = E := by rfl) : Own T b (w.alloc (.cells #[] E)) (.slice (some ⟨w.heap.size, 0, none⟩) 0 0) [] := by
  have := World.ownsRow_lit w #[] 0 (base := b) (e := E) (size := T.k) hE (by decide) (by simp)
  subst he
  exact this
end
theorem Own.block {b : Nat} {w : World} {g n cap : Nat} {es : List Ev} (h : Own tE b w (.slice (some ⟨g, 0, none⟩) n cap) es) : Cells w g (es.flatMap tE.enc) ∧ b ≤ g ∧ g < w.heap.size := by
  have hh := h
  rcases h.2 with ⟨e, -⟩ | ⟨k, cap', cur, e, h2, h3, h4, h5, h6, h7⟩
  · cases e
  · simp only [Value.slice.injEq, Option.some.injEq, Addr.mk.injEq, and_true] at e
    obtain ⟨rfl, -, rfl⟩ := e
    refine ⟨fun i v hv => ⟨?_, ?_⟩, h2, (Array.getElem?_eq_some_iff.1 h3).1⟩
    · have hc := World.ownsRow.cells hh (g := g) rfl i v hv
      rw [Go.WideShapes.add_plain, Nat.zero_add] at hc
      exact hc
    · unfold World.frozen?
      simp only [h3]
      simp
theorem Has.own {w0 w : World} {bs : List (Nat × List Value)} {b g n cap : Nat} {es : List Ev} (C : Has w0 bs w) (h : Own tE b w (.slice (some ⟨g, 0, none⟩) n cap) es) (hb : w0.heap.size ≤ b) (hn : ∀ p ∈ bs, p.1 < b) : Has w0 ((g, es.flatMap tE.enc) :: bs) w := by
  obtain ⟨h1, h2, h3⟩ := h.block
  refine ⟨fun p hp => ?_, fun p hp => ?_, fun p hp => ?_, List.pairwise_cons.2 ⟨fun p hp e => ?_, C.nd⟩, C.low⟩
  · rcases List.mem_cons.1 hp with rfl | hp
    · exact h1
    · exact C.c p hp
  · rcases List.mem_cons.1 hp with rfl | hp
    · exact h3
    · exact C.lt p hp
  · rcases List.mem_cons.1 hp with rfl | hp
    · exact Nat.le_trans hb h2
    · exact C.ge p hp
  · have := hn p hp
    simp only at e
    omega
theorem Own.some' {b : Nat} {w : World} {v : Value} {es : List Ev} (h : Own tE b w v es) (hp : 0 < es.length) : ∃ g cap, v = .slice (some ⟨g, 0, none⟩) es.length cap ∧ es.length ≤ cap ∧ (cap : Int) ≤ 9223372036854775807 := by
  obtain ⟨a, c, e, h1, h2⟩ := h.form
  rcases h.2 with ⟨e', h0⟩ | ⟨k, cap', cur, e', -⟩
  · omega
  · rw [e] at e'
    injection e' with e1 e2 e3
    exact ⟨k, c, by rw [e, e1], h1, h2⟩
def Ev.put (e : Ev) (p : Int) : Ev := ⟨e.kind, p, e.id, e.other, e.n⟩
theorem flat_setE : ∀ (es : List Ev) (k : Nat) (e : Ev) (p : Int), es[k]? = some e → (es.flatMap tE.enc).set (k * 5 + 1) (.int .i64 p) = (es.set k (e.put p)).flatMap tE.enc
  | [], k, e, p, h => by simp at h
  | x :: es, 0, e, p, h => by
    simp only [List.getElem?_cons_zero, Option.some.injEq] at h
    subst h
    rfl
  | x :: es, k + 1, e, p, h => by
    rw [List.getElem?_cons_succ] at h
    have hl : (tE.enc x).length = 5 := rfl
    rw [List.set_cons_succ, List.flatMap_cons, List.flatMap_cons, ← flat_setE es k e p h, List.set_append_right _ _ (by rw [hl]; omega), hl]
    congr 2
    omega
theorem atE_set_eq {es : List Ev} {k : Nat} {e : Ev} (h : k < es.length) : atE (es.set k e) k = e.at_ := by unfold atE; rw [List.getElem?_set_self h]; rfl
theorem atE_set_ne {es : List Ev} {k i : Nat} {e : Ev} (h : k ≠ i) : atE (es.set k e) i = atE es i := by unfold atE; rw [List.getElem?_set_ne h]
end Go.Proofs.Ytfcoblapbcdaiaa
