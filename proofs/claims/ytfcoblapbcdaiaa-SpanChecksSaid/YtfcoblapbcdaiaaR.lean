/- A range over a function: the iterator's contract, and what its caller owes. -/
import Derived.Test.YtfcoblapbcdaiaaN
import Derived.RangeFuncNested
import Derived.RangeFuncBound
import Derived.RangeFuncCalls
import Derived.RangeFuncLeaves
import Derived.Shelf.Abstract
import Derived.Shelf.RegionOpen
import Derived.OwnWalkIn
import Derived.TacticsInMore
import Derived.LoopNIn
import Derived.LoopIn
import Derived.OrdersIn
import Derived.Stop.RegionWithIn
namespace Go.Proofs.Ytfcoblapbcdaiaa
open Go.RowKit Go.Lib
theorem grows_putObj {w W : World} {i : Nat} (ob' : Obj) (h : Grows w W) (hi : w.heap.size ≤ i) : Grows w (W.putObj i ob') :=
  h.grown (grownBy_putObj' W i ob') h.size (fun r e => by cases e; exact hi)
/-- The cells of a world are what they were. -/
def Kept (w0 W : World) : Prop := ∀ ad v, w0.cell? ad = some v → W.cell? ad = some v
theorem Kept.of {w0 W : World} (g : Grows w0 W) : Kept w0 W := fun _ _ h => (g.cell (World.block_lt_of_cell? w0 _ h)).trans h
theorem Kept.later {w0 W W' : World} (h : Kept w0 W) (g : Grows W W') : Kept w0 W' := fun _ _ c => Kept.of g _ _ (h _ _ c)
theorem Kept.putObj {w0 W : World} {i : Nat} {o o' : Obj} (h : Kept w0 W) (ho : W.heap[i]? = some o) (hc : o.isCells = false) : Kept w0 (W.putObj i o') := fun _ _ c =>
  cell_kept (h _ _ c) (grownBy_putObj' W i o') (fun r e => by cases e; exact ⟨o, ho, hc⟩)
theorem Kept.set {w0 W : World} (h : Kept w0 W) {b o : Nat} (hb : w0.heap.size ≤ b) (u : Value) : Kept w0 (W.setCell ⟨b, o, none⟩ u) := fun ad v c => by
  rw [World.cell?_setCell_other (h := by intro e; have := World.block_lt_of_cell? w0 _ c; rw [← e] at this; simp only at this; omega)]
  exact h _ _ c
theorem Kept.drew {w0 W : World} (h : Kept w0 W) : Kept w0 W.drew := h
/-- K rounds come, one after the other; who is called finds what is handed out in memory, and leaves it there. -/
def Seq (n gf : Nat) (lb : Array Value) (K : Nat) (enc : Nat → Array Value) (Lv : World → Prop) (w0 : World) : Prop :=
  ∀ (l : Nat) (J Jx : Nat → World → Prop) (W : World), Grows w0 W → (∀ k A B, J k A → Grows A B → J k B) → (∀ k A, J k A → Lv A) →
    (∀ k A, k < K → J k A → YieldAt Fence.wide (n - 1) Try.prog l (enc k) A fun e B => (e = .returned (.bool true) ∧ J (k + 1) B) ∨ (e = .returned (.bool false) ∧ Jx k B)) →
    (∀ k A B, Jx k A → Grows A B → Jx k B) →
    J 0 W → CallsIn Fence.wide n Try.prog gf (#[.func (.yield l) #[] #[]] ++ lb) W fun e W' => (∃ v, e = .returned v) ∧ (J K W' ∨ ∃ k, k < K ∧ Jx k W')

/-- How a round of the caller's may be left. -/
def sqPost (B : Nat) (I : World → Prop) (Ix : Code → World → Prop) (W : World) : Exit → Act → World → Prop
  | .normal, _, W' => KeepsFrom B W W' ∧ I W'
  | .ret, _, W' => KeepsFrom B W W' ∧ Ix .ret W'
  | .exit id, _, W' => KeepsFrom B W W' ∧ Ix (.exit id) W'
  | .goto t, _, W' => KeepsFrom B W W' ∧ Ix (.goto t) W'
  | .panic _, _, _ => False
  | .outgrown, _, _ => False

/-- What speaks of cells alone. -/
def OnCells (B : Nat) (I : World → Prop) : Prop := ∀ A l o o', I A → B ≤ l → A.heap[l]? = some o → o.isCells = false → I (A.putObj l o')

/-- The loop, as its caller walks it. -/
theorem range_sq {g : Operand} {ps : Array Tmp} {assign body : Code} {Q : Exit → Act → World → Prop} {a : Act} {w w0 : World} {n gf : Nat} {lb : Array Value} {K : Nat} {enc : Nat → Array Value} {Lv : World → Prop} (hg : a.eval g = .func (.func gf) #[] lb) (eg : ∀ args w, (callFunc gf args).run Try.prog w = .ok (.enter gf args) w) (hseq : Seq (n - 1) gf lb K enc Lv w0) (hb0 : Grows w0 w) (hps : ∀ k, (enc k).size = ps.size)
    (I : Nat → World → Prop) (Ix : Code → Nat → World → Prop) (Ax : Nat → Act → World → Prop) (hI : ∀ k A B, I k A → Grows A B → I k B) (hIx : ∀ c k A B, Ix c k A → Grows A B → Ix c k B) (hL : ∀ k A, I k A → Lv A)
    (hIp : ∀ k, OnCells w.heap.size (I k)) (hIxp : ∀ c k, OnCells w.heap.size (Ix c k)) (hAp : ∀ k a', OnCells w.heap.size (Ax k a')) (h0 : I 0 w)
    (hassign : ∀ l k A (T : Act → World → Prop), k < K → I k A → (∀ a' B, KeepsFrom w.heap.size A B → Ax k a' B → T a' B) →
      assign.wpIn (Fence.wide.inRound l) (n - 1 - 1) Try.prog (Exit.then T (fun _ _ _ => False)) { tmps := (ps.zip (enc k)).foldl (fun t (p, v) => t.setIfInBounds p v) a.tmps, defers := [] } A)
    (hbody : ∀ l k a' A, w.heap.size ≤ l → (∃ r, A.heap[l]? = some (.loop r)) → Ax k a' A → k < K → body.wpIn (Fence.wide.inRound l) (n - 1 - 1) Try.prog (sqPost w.heap.size (I (k + 1)) (fun c => Ix c k) A) a' A)
    (hdone : ∀ D A, w.heap.size ≤ D → I K A → A.heap[D]? = some (.deferred (some [])) → Q .normal { a with defers := { target := .collected D, args := #[] } :: a.defers } A)
    (hstop : ∀ D c k A, w.heap.size ≤ D → k < K → Ix c k A → A.heap[D]? = some (.deferred (some [])) → c.wpIn Fence.wide n Try.prog Q { a with defers := { target := .collected D, args := #[] } :: a.defers } A) :
    (Code.rangeFunc g ps assign body).wpIn Fence.wide n Try.prog Q a w := by
  refine wpIn_rangeFunc fun fn hfn => ?_
  obtain ⟨rec, hrec⟩ : ∃ rec : LoopState → Option Code → Loop, rec = fun st pe => { state := st, pending := pe, fn, tmps := a.tmps, params := ps, assign, body, defers := w.heap.size } := ⟨_, rfl⟩
  obtain ⟨W1, hW1⟩ : ∃ W1, (w.alloc (.deferred (some []))).alloc (.loop (rec .ready none)) = W1 := ⟨_, rfl⟩
  have g1 : Grows w W1 := by rw [← hW1]; exact ((Below.refl _ w).alloc (Nat.le_refl _) _).alloc (by simp) _
  have hL1 : W1.heap[w.heap.size + 1]? = some (.loop (rec .ready none)) := by
    rw [← hW1]; have := World.alloc_heap_new (w.alloc (.deferred (some []))) (.loop (rec .ready none)); rwa [World.size_alloc] at this
  have hK1 : W1.heap[w.heap.size]? = some (.deferred (some [])) := by
    rw [← hW1]; exact (Below.heap_alloc _ _ _ (by simp)).trans (World.alloc_heap_new w _)
  refine ⟨w.heap.size + 1, [{ target := .collected w.heap.size, args := #[] }], W1, { target := .fn (.func gf) lb, args := #[.func (.yield (w.heap.size + 1)) #[] #[]] }, W1, gf,
    #[.func (.yield (w.heap.size + 1)) #[] #[]] ++ lb, W1, ?_, ?_, fun _ _ => trivial, ?_, fun h => by simp [Fence.wide] at h, ?_⟩
  · rw [← hW1, hrec]; exact run_enterLoop_outer _ _ _ _ _
  · simp only [resolve, hg]
    simp [go_sem]
  · simp [invoke, go_sem, eg]
  · refine ((hseq (w.heap.size + 1)
      (fun k A => I k A ∧ A.heap[(w.heap.size + 1)]? = some (.loop (rec .ready none)) ∧ A.heap[w.heap.size]? = some (.deferred (some [])))
      (fun k A => ∃ c, Ix c k A ∧ A.heap[(w.heap.size + 1)]? = some (.loop (rec .done (some c))) ∧ A.heap[w.heap.size]? = some (.deferred (some [])))
      W1 (hb0.then g1) (fun k A B hA hB => by obtain ⟨x1, x2, x3⟩ := hA; exact ⟨hI k A B x1 hB, heap_grows hB x2, heap_grows hB x3⟩) (fun k A hA => hL k A hA.1) ?_ (fun k A B hA hB => by obtain ⟨c, x1, x2, x3⟩ := hA; exact ⟨c, hIx c k A B x1 hB, heap_grows hB x2, heap_grows hB x3⟩) ⟨hI 0 w W1 h0 g1, hL1, hK1⟩)).mono ?_
    · -- one round
      rintro k A hkK ⟨hi, hl, hk⟩
      have hlt0 : (w.heap.size + 1) < A.heap.size := (Array.getElem?_eq_some_iff.1 hl).1
      have hy := run_yield (P := Try.prog) (args := enc k) hl (by rw [hrec]; exact hps k)
      rw [hrec] at hy
      refine ⟨fn, _, assign, body, hy, roundIn_of_wpIn hfn (hassign _ k A _ hkK hi ?_)⟩
      clear hy hlt0
      intro a' B hkf hax
      replace hl := hkf.same _ _ (by omega) hl rfl
      replace hk := hkf.same _ _ (Nat.le_refl _) hk rfl
      have hlt : (w.heap.size + 1) < B.heap.size := (Array.getElem?_eq_some_iff.1 hl).1
      refine ⟨_, run_beginRound hl (by rw [hrec]), ?_⟩
      have hl2 : (B.putObj (w.heap.size + 1) (.loop { rec .ready none with state := .busy })).heap[(w.heap.size + 1)]? = some (.loop { rec .ready none with state := .busy }) := World.putObj_heap_same hlt
      have hk2 : (B.putObj (w.heap.size + 1) (.loop { rec .ready none with state := .busy })).heap[w.heap.size]? = some (.deferred (some [])) := (World.putObj_heap_other (by omega)).trans hk
      refine wpIn_mono (hbody _ k a' _ (by omega) ⟨_, hl2⟩ (hAp k a' B _ _ _ hax (by omega) hl rfl) hkK) ?_
      have fin : ∀ (jump : Option Code) (C : World), KeepsFrom w.heap.size (B.putObj (w.heap.size + 1) (.loop { rec .ready none with state := .busy })) C →
          (Instr.endRound (w.heap.size + 1) jump).run Try.prog C = .ok (.bool jump.isNone) (C.putObj (w.heap.size + 1) (.loop (rec (if jump.isNone then .ready else .done) jump))) ∧
          C.heap[(w.heap.size + 1)]? = some (.loop { rec .ready none with state := .busy }) ∧
          (C.putObj (w.heap.size + 1) (.loop (rec (if jump.isNone then .ready else .done) jump))).heap[(w.heap.size + 1)]? = some (.loop (rec (if jump.isNone then .ready else .done) jump)) ∧
          (C.putObj (w.heap.size + 1) (.loop (rec (if jump.isNone then .ready else .done) jump))).heap[w.heap.size]? = some (.deferred (some [])) := fun jump C hk3 => by
        have hl3 := hk3.same _ _ (by omega) hl2 rfl
        have := run_endRound (P := Try.prog) jump hl3
        rw [hrec] at this ⊢
        exact ⟨this, by rw [hrec] at hl3; exact hl3, World.putObj_heap_same (Array.getElem?_eq_some_iff.1 hl3).1, (World.putObj_heap_other (by omega)).trans (hk3.same _ _ (Nat.le_refl _) hk2 rfl)⟩
      rintro e a3 C hp
      cases e with
      | normal =>
        obtain ⟨hk3, hi3⟩ := hp
        obtain ⟨hr, hl3, hl4, hk4⟩ := fin none C hk3
        exact ⟨_, _, hr, .inl ⟨rfl, hIp _ C _ _ _ hi3 (by omega) hl3 rfl, hl4, hk4⟩⟩
      | ret =>
        obtain ⟨hk3, hi3⟩ := hp
        obtain ⟨hr, hl3, hl4, hk4⟩ := fin (some .ret) C hk3
        exact ⟨_, _, hr, .inr ⟨rfl, .ret, hIxp _ _ C _ _ _ hi3 (by omega) hl3 rfl, hl4, hk4⟩⟩
      | exit id =>
        obtain ⟨hk3, hi3⟩ := hp
        obtain ⟨hr, hl3, hl4, hk4⟩ := fin (some (.exit id)) C hk3
        exact ⟨_, _, hr, .inr ⟨rfl, (.exit id), hIxp _ _ C _ _ _ hi3 (by omega) hl3 rfl, hl4, hk4⟩⟩
      | goto t =>
        obtain ⟨hk3, hi3⟩ := hp
        obtain ⟨hr, hl3, hl4, hk4⟩ := fin (some (.goto t)) C hk3
        exact ⟨_, _, hr, .inr ⟨rfl, (.goto t), hIxp _ _ C _ _ _ hi3 (by omega) hl3 rfl, hl4, hk4⟩⟩
      | panic ch => exact hp.elim
      | outgrown => exact hp.elim
    · -- behind the iterator
      rintro e B ⟨⟨v, rfl⟩, (⟨hi, hl, hk⟩ | ⟨k, hkK, c, hi, hl, hk⟩)⟩
      · exact ⟨none, _, by have := run_endLoop (P := Try.prog) hl (by rw [hrec]; simp); rw [hrec] at this; exact this, hdone _ _ (Nat.le_refl _) (hIp _ B _ _ _ hi (by omega) hl rfl) ((World.putObj_heap_other (by omega)).trans hk)⟩
      · exact ⟨some c, _, by have := run_endLoop (P := Try.prog) hl (by rw [hrec]; simp); rw [hrec] at this; exact this, hstop _ c k _ (Nat.le_refl _) hkK (hIxp c k B _ _ _ hi (by omega) hl rfl) ((World.putObj_heap_other (by omega)).trans hk)⟩

end Go.Proofs.Ytfcoblapbcdaiaa
