/- A range over a function: the iterator's contract, and what its caller owes, in a function and in a round of another such loop. -/
import Derived.Test.YtmldgjhecoeldaaRange
namespace Go.Proofs.Ytmldgjhecoeldaa
open Go.RowKit Go.Lib

/-- K rounds come, one after the other; who is called finds what is handed out in memory, and leaves it there. -/
def Seq (n gf : Nat) (lb : Array Value) (K : Nat) (enc : Nat → Array Value) (Lv : World → Prop) (w0 : World) : Prop :=
  ∀ (l : Nat) (J Jx : Nat → World → Prop) (W : World), Grows w0 W → (∀ k A B, J k A → Grows A B → J k B) → (∀ k A, J k A → Lv A) →
    (∀ k A, k < K → J k A → YieldAt Fence.wide (n - 1) Try.prog l (enc k) A fun e B => (e = .returned (.bool true) ∧ J (k + 1) B) ∨ (e = .returned (.bool false) ∧ Jx k B)) →
    (∀ k A B, Jx k A → Grows A B → Jx k B) →
    J 0 W → CallsIn Fence.wide n Try.prog gf (#[.func (.yield l) #[] #[]] ++ lb) W fun e W' => (∃ v, e = .returned v) ∧ (J K W' ∨ ∃ k, k < K ∧ Jx k W')

/-- How a round of the caller's may be left. -/
def sqPost (B : Nat) (I : World → Prop) (Ix : Code → World → Prop) (W : World) : Exit → Act → World → Prop
  | .normal, _, W' => KeepsFrom B W W' ∧ I W'
  | .ret, _, W' => KeepsFrom B W W' ∧ Ix .ret W'
  | .exit id, _, W' => KeepsFrom B W W' ∧ Ix (.exit id) W'
  | .goto t, _, W' => KeepsFrom B W W' ∧ Ix (.goto t) W'
  | .panic _, _, _ => False
  | .outgrown, _, _ => False

/-- What speaks of cells alone. -/
def OnCells (B : Nat) (I : World → Prop) : Prop := ∀ A l o o', I A → B ≤ l → A.heap[l]? = some o → o.isCells = false → I (A.putObj l o')

/-- The loop, as its caller walks it. -/
theorem range_sq {g : Operand} {ps : Array Tmp} {assign body : Code} {Q : Exit → Act → World → Prop} {a : Act} {w w0 : World} {n gf : Nat} {lb : Array Value} {K : Nat} {enc : Nat → Array Value} {Lv : World → Prop} (hg : a.eval g = .func (.func gf) #[] lb) (eg : ∀ args w, (callFunc gf args).run Try.prog w = .ok (.enter gf args) w) (hseq : Seq (n - 1) gf lb K enc Lv w0) (hb0 : Grows w0 w) (hps : ∀ k, (enc k).size = ps.size)
    (I : Nat → World → Prop) (Ix : Code → Nat → World → Prop) (Ax : Nat → Act → World → Prop) (hI : ∀ k A B, I k A → Grows A B → I k B) (hIx : ∀ c k A B, Ix c k A → Grows A B → Ix c k B) (hL : ∀ k A, I k A → Lv A)
    (hIp : ∀ k, OnCells w.heap.size (I k)) (hIxp : ∀ c k, OnCells w.heap.size (Ix c k)) (hAp : ∀ k a', OnCells w.heap.size (Ax k a')) (h0 : I 0 w)
    (hassign : ∀ l k A (T : Act → World → Prop), k < K → I k A → (∀ a' B, KeepsFrom w.heap.size A B → Ax k a' B → T a' B) →
      assign.wpIn (Fence.wide.inRound l) (n - 1 - 1) Try.prog (Exit.then T (fun _ _ _ => False)) { tmps := (ps.zip (enc k)).foldl (fun t (p, v) => t.setIfInBounds p v) a.tmps, defers := [] } A)
    (hbody : ∀ l k a' A, w.heap.size ≤ l → (∃ r, A.heap[l]? = some (.loop r)) → Ax k a' A → k < K → body.wpIn (Fence.wide.inRound l) (n - 1 - 1) Try.prog (sqPost w.heap.size (I (k + 1)) (fun c => Ix c k) A) a' A)
    (hdone : ∀ D A, w.heap.size ≤ D → I K A → A.heap[D]? = some (.deferred (some [])) → Q .normal { a with defers := { target := .collected D, args := #[] } :: a.defers } A)
    (hstop : ∀ D c k A, w.heap.size ≤ D → k < K → Ix c k A → A.heap[D]? = some (.deferred (some [])) → c.wpIn Fence.wide n Try.prog Q { a with defers := { target := .collected D, args := #[] } :: a.defers } A) :
    (Code.rangeFunc g ps assign body).wpIn Fence.wide n Try.prog Q a w := by
  refine wpIn_rangeFunc fun fn hfn => ?_
  obtain ⟨rec, hrec⟩ : ∃ rec : LoopState → Option Code → Loop, rec = fun st pe => { state := st, pending := pe, fn, tmps := a.tmps, params := ps, assign, body, defers := w.heap.size } := ⟨_, rfl⟩
  obtain ⟨W1, hW1⟩ : ∃ W1, (w.alloc (.deferred (some []))).alloc (.loop (rec .ready none)) = W1 := ⟨_, rfl⟩
  have g1 : Grows w W1 := by rw [← hW1]; exact ((Below.refl _ w).alloc (Nat.le_refl _) _).alloc (by simp) _
  have hL1 : W1.heap[w.heap.size + 1]? = some (.loop (rec .ready none)) := by
    rw [← hW1]; have := World.alloc_heap_new (w.alloc (.deferred (some []))) (.loop (rec .ready none)); rwa [World.size_alloc] at this
  have hK1 : W1.heap[w.heap.size]? = some (.deferred (some [])) := by
    rw [← hW1]; exact (Below.heap_alloc _ _ _ (by simp)).trans (World.alloc_heap_new w _)
  refine ⟨w.heap.size + 1, [{ target := .collected w.heap.size, args := #[] }], W1, { target := .fn (.func gf) lb, args := #[.func (.yield (w.heap.size + 1)) #[] #[]] }, W1, gf,
    #[.func (.yield (w.heap.size + 1)) #[] #[]] ++ lb, W1, ?_, ?_, fun _ _ => trivial, ?_, fun h => by simp [Fence.wide] at h, ?_⟩
  · rw [← hW1, hrec]; exact run_enterLoop_outer _ _ _ _ _
  · simp only [resolve, hg]
    simp [go_sem]
  · simp [invoke, go_sem, eg]
  · refine ((hseq (w.heap.size + 1)
      (fun k A => I k A ∧ A.heap[(w.heap.size + 1)]? = some (.loop (rec .ready none)) ∧ A.heap[w.heap.size]? = some (.deferred (some [])))
      (fun k A => ∃ c, Ix c k A ∧ A.heap[(w.heap.size + 1)]? = some (.loop (rec .done (some c))) ∧ A.heap[w.heap.size]? = some (.deferred (some [])))
      W1 (hb0.then g1) (fun k A B hA hB => by obtain ⟨x1, x2, x3⟩ := hA; exact ⟨hI k A B x1 hB, heap_grows hB x2, heap_grows hB x3⟩) (fun k A hA => hL k A hA.1) ?_ (fun k A B hA hB => by obtain ⟨c, x1, x2, x3⟩ := hA; exact ⟨c, hIx c k A B x1 hB, heap_grows hB x2, heap_grows hB x3⟩) ⟨hI 0 w W1 h0 g1, hL1, hK1⟩)).mono ?_
    · -- one round
      rintro k A hkK ⟨hi, hl, hk⟩
      have hlt0 : (w.heap.size + 1) < A.heap.size := (Array.getElem?_eq_some_iff.1 hl).1
      have hy := run_yield (P := Try.prog) (args := enc k) hl (by rw [hrec]; exact hps k)
      rw [hrec] at hy
      refine ⟨fn, _, assign, body, hy, roundIn_of_wpIn hfn (hassign _ k A _ hkK hi ?_)⟩
      clear hy hlt0
      intro a' B hkf hax
      replace hl := hkf.same _ _ (by omega) hl rfl
      replace hk := hkf.same _ _ (Nat.le_refl _) hk rfl
      have hlt : (w.heap.size + 1) < B.heap.size := (Array.getElem?_eq_some_iff.1 hl).1
      refine ⟨_, run_beginRound hl (by rw [hrec]), ?_⟩
      have hl2 : (B.putObj (w.heap.size + 1) (.loop { rec .ready none with state := .busy })).heap[(w.heap.size + 1)]? = some (.loop { rec .ready none with state := .busy }) := World.putObj_heap_same hlt
      have hk2 : (B.putObj (w.heap.size + 1) (.loop { rec .ready none with state := .busy })).heap[w.heap.size]? = some (.deferred (some [])) := (World.putObj_heap_other (by omega)).trans hk
      refine wpIn_mono (hbody _ k a' _ (by omega) ⟨_, hl2⟩ (hAp k a' B _ _ _ hax (by omega) hl rfl) hkK) ?_
      have fin : ∀ (jump : Option Code) (C : World), KeepsFrom w.heap.size (B.putObj (w.heap.size + 1) (.loop { rec .ready none with state := .busy })) C →
          (Instr.endRound (w.heap.size + 1) jump).run Try.prog C = .ok (.bool jump.isNone) (C.putObj (w.heap.size + 1) (.loop (rec (if jump.isNone then .ready else .done) jump))) ∧
          C.heap[(w.heap.size + 1)]? = some (.loop { rec .ready none with state := .busy }) ∧
          (C.putObj (w.heap.size + 1) (.loop (rec (if jump.isNone then .ready else .done) jump))).heap[(w.heap.size + 1)]? = some (.loop (rec (if jump.isNone then .ready else .done) jump)) ∧
          (C.putObj (w.heap.size + 1) (.loop (rec (if jump.isNone then .ready else .done) jump))).heap[w.heap.size]? = some (.deferred (some [])) := fun jump C hk3 => by
        have hl3 := hk3.same _ _ (by omega) hl2 rfl
        have := run_endRound (P := Try.prog) jump hl3
        rw [hrec] at this ⊢
        exact ⟨this, by rw [hrec] at hl3; exact hl3, World.putObj_heap_same (Array.getElem?_eq_some_iff.1 hl3).1, (World.putObj_heap_other (by omega)).trans (hk3.same _ _ (Nat.le_refl _) hk2 rfl)⟩
      rintro e a3 C hp
      cases e with
      | normal =>
        obtain ⟨hk3, hi3⟩ := hp
        obtain ⟨hr, hl3, hl4, hk4⟩ := fin none C hk3
        exact ⟨_, _, hr, .inl ⟨rfl, hIp _ C _ _ _ hi3 (by omega) hl3 rfl, hl4, hk4⟩⟩
      | ret =>
        obtain ⟨hk3, hi3⟩ := hp
        obtain ⟨hr, hl3, hl4, hk4⟩ := fin (some .ret) C hk3
        exact ⟨_, _, hr, .inr ⟨rfl, .ret, hIxp _ _ C _ _ _ hi3 (by omega) hl3 rfl, hl4, hk4⟩⟩
      | exit id =>
        obtain ⟨hk3, hi3⟩ := hp
        obtain ⟨hr, hl3, hl4, hk4⟩ := fin (some (.exit id)) C hk3
        exact ⟨_, _, hr, .inr ⟨rfl, (.exit id), hIxp _ _ C _ _ _ hi3 (by omega) hl3 rfl, hl4, hk4⟩⟩
      | goto t =>
        obtain ⟨hk3, hi3⟩ := hp
        obtain ⟨hr, hl3, hl4, hk4⟩ := fin (some (.goto t)) C hk3
        exact ⟨_, _, hr, .inr ⟨rfl, (.goto t), hIxp _ _ C _ _ _ hi3 (by omega) hl3 rfl, hl4, hk4⟩⟩
      | panic ch => exact hp.elim
      | outgrown => exact hp.elim
    · -- behind the iterator
      rintro e B ⟨⟨v, rfl⟩, (⟨hi, hl, hk⟩ | ⟨k, hkK, c, hi, hl, hk⟩)⟩
      · exact ⟨none, _, by have := run_endLoop (P := Try.prog) hl (by rw [hrec]; simp); rw [hrec] at this; exact this, hdone _ _ (Nat.le_refl _) (hIp _ B _ _ _ hi (by omega) hl rfl) ((World.putObj_heap_other (by omega)).trans hk)⟩
      · exact ⟨some c, _, by have := run_endLoop (P := Try.prog) hl (by rw [hrec]; simp); rw [hrec] at this; exact this, hstop _ c k _ (Nat.le_refl _) hkK (hIxp c k B _ _ _ hi (by omega) hl rfl) ((World.putObj_heap_other (by omega)).trans hk)⟩

/-- The loop, as its caller walks it, in a round of another one. -/
theorem range_sqN {g : Operand} {ps : Array Tmp} {assign body : Code} {Q : Exit → Act → World → Prop} {a : Act} {w w0 : World} {n gf : Nat} {lb : Array Value} {K : Nat} {enc : Nat → Array Value} {Lv : World → Prop} {l₀ : Nat} {r₀ : Loop} (hl₀ : w.heap[l₀]? = some (.loop r₀))
    (hg : a.eval g = .func (.func gf) #[] lb) (eg : ∀ args w, (callFunc gf args).run Try.prog w = .ok (.enter gf args) w) (hseq : Seq (n - 1) gf lb K enc Lv w0) (hb0 : Grows w0 w) (hps : ∀ k, (enc k).size = ps.size)
    (I : Nat → World → Prop) (Ix : Code → Nat → World → Prop) (Ax : Nat → Act → World → Prop) (hI : ∀ k A B, I k A → Grows A B → I k B) (hIx : ∀ c k A B, Ix c k A → Grows A B → Ix c k B) (hL : ∀ k A, I k A → Lv A)
    (hIp : ∀ k, OnCells w.heap.size (I k)) (hIxp : ∀ c k, OnCells w.heap.size (Ix c k)) (hAp : ∀ k a', OnCells w.heap.size (Ax k a')) (h0 : I 0 w)
    (hassign : ∀ l k A (T : Act → World → Prop), k < K → I k A → (∀ a' B, KeepsFrom w.heap.size A B → Ax k a' B → T a' B) →
      assign.wpIn (Fence.wide.inRound l) (n - 1 - 1) Try.prog (Exit.then T (fun _ _ _ => False)) { tmps := (ps.zip (enc k)).foldl (fun t (p, v) => t.setIfInBounds p v) a.tmps, defers := [] } A)
    (hbody : ∀ l k a' A, w.heap.size ≤ l → (∃ r, A.heap[l]? = some (.loop r)) → Ax k a' A → k < K → body.wpIn (Fence.wide.inRound l) (n - 1 - 1) Try.prog (sqPost w.heap.size (I (k + 1)) (fun c => Ix c k) A) a' A)
    (hdone : ∀ A, I K A → Q .normal a A)
    (hstop : ∀ c k A, k < K → Ix c k A → c.wpIn (Fence.wide.inRound l₀) n Try.prog Q a A) :
    (Code.rangeFunc g ps assign body).wpIn (Fence.wide.inRound l₀) n Try.prog Q a w := by
  refine wpIn_rangeFunc fun fn hfn => ?_
  obtain ⟨rec, hrec⟩ : ∃ rec : LoopState → Option Code → Loop, rec = fun st pe => { state := st, pending := pe, fn, tmps := a.tmps, params := ps, assign, body, defers := r₀.defers } := ⟨_, rfl⟩
  obtain ⟨W1, hW1⟩ : ∃ W1, w.alloc (.loop (rec .ready none)) = W1 := ⟨_, rfl⟩
  have g1 : Grows w W1 := by rw [← hW1]; exact (Below.refl _ w).alloc (Nat.le_refl _) _
  have hL1 : W1.heap[w.heap.size]? = some (.loop (rec .ready none)) := by rw [← hW1]; exact World.alloc_heap_new w _
  refine ⟨w.heap.size, [], W1, { target := .fn (.func gf) lb, args := #[.func (.yield w.heap.size) #[] #[]] }, W1, gf,
    #[.func (.yield w.heap.size) #[] #[]] ++ lb, W1, ?_, ?_, fun _ _ => trivial, ?_, fun h => by simp [Fence.wide, Fence.inRound] at h, ?_⟩
  · rw [← hW1, hrec]; exact run_enterLoop_inner hl₀ _ _ _ _ _
  · simp only [resolve, hg]
    simp [go_sem]
  · simp [invoke, go_sem, eg]
  · refine (CallsIn.inRound l₀ (hseq w.heap.size
      (fun k A => I k A ∧ A.heap[w.heap.size]? = some (.loop (rec .ready none)))
      (fun k A => ∃ c, Ix c k A ∧ A.heap[w.heap.size]? = some (.loop (rec .done (some c))))
      W1 (hb0.then g1) (fun k A B hA hB => by obtain ⟨x1, x2⟩ := hA; exact ⟨hI k A B x1 hB, heap_grows hB x2⟩) (fun k A hA => hL k A hA.1) ?_ (fun k A B hA hB => by obtain ⟨c, x1, x2⟩ := hA; exact ⟨c, hIx c k A B x1 hB, heap_grows hB x2⟩) ⟨hI 0 w W1 h0 g1, hL1⟩)).mono ?_
    · -- one round
      rintro k A hkK ⟨hi, hl⟩
      have hlt0 : w.heap.size < A.heap.size := (Array.getElem?_eq_some_iff.1 hl).1
      have hy := run_yield (P := Try.prog) (args := enc k) hl (by rw [hrec]; exact hps k)
      rw [hrec] at hy
      refine ⟨fn, _, assign, body, hy, roundIn_of_wpIn hfn (hassign _ k A _ hkK hi ?_)⟩
      clear hy hlt0
      intro a' B hkf hax
      replace hl := hkf.same _ _ (by omega) hl rfl
      
      have hlt : w.heap.size < B.heap.size := (Array.getElem?_eq_some_iff.1 hl).1
      refine ⟨_, run_beginRound hl (by rw [hrec]), ?_⟩
      have hl2 : (B.putObj w.heap.size (.loop { rec .ready none with state := .busy })).heap[w.heap.size]? = some (.loop { rec .ready none with state := .busy }) := World.putObj_heap_same hlt
      
      refine wpIn_mono (hbody _ k a' _ (by omega) ⟨_, hl2⟩ (hAp k a' B _ _ _ hax (by omega) hl rfl) hkK) ?_
      have fin : ∀ (jump : Option Code) (C : World), KeepsFrom w.heap.size (B.putObj w.heap.size (.loop { rec .ready none with state := .busy })) C →
          (Instr.endRound w.heap.size jump).run Try.prog C = .ok (.bool jump.isNone) (C.putObj w.heap.size (.loop (rec (if jump.isNone then .ready else .done) jump))) ∧
          C.heap[w.heap.size]? = some (.loop { rec .ready none with state := .busy }) ∧
          (C.putObj w.heap.size (.loop (rec (if jump.isNone then .ready else .done) jump))).heap[w.heap.size]? = some (.loop (rec (if jump.isNone then .ready else .done) jump)) := fun jump C hk3 => by
        have hl3 := hk3.same _ _ (by omega) hl2 rfl
        have := run_endRound (P := Try.prog) jump hl3
        rw [hrec] at this ⊢
        exact ⟨this, by rw [hrec] at hl3; exact hl3, World.putObj_heap_same (Array.getElem?_eq_some_iff.1 hl3).1⟩
      rintro e a3 C hp
      cases e with
      | normal =>
        obtain ⟨hk3, hi3⟩ := hp
        obtain ⟨hr, hl3, hl4⟩ := fin none C hk3
        exact ⟨_, _, hr, .inl ⟨rfl, hIp _ C _ _ _ hi3 (by omega) hl3 rfl, hl4⟩⟩
      | ret =>
        obtain ⟨hk3, hi3⟩ := hp
        obtain ⟨hr, hl3, hl4⟩ := fin (some .ret) C hk3
        exact ⟨_, _, hr, .inr ⟨rfl, .ret, hIxp _ _ C _ _ _ hi3 (by omega) hl3 rfl, hl4⟩⟩
      | exit id =>
        obtain ⟨hk3, hi3⟩ := hp
        obtain ⟨hr, hl3, hl4⟩ := fin (some (.exit id)) C hk3
        exact ⟨_, _, hr, .inr ⟨rfl, (.exit id), hIxp _ _ C _ _ _ hi3 (by omega) hl3 rfl, hl4⟩⟩
      | goto t =>
        obtain ⟨hk3, hi3⟩ := hp
        obtain ⟨hr, hl3, hl4⟩ := fin (some (.goto t)) C hk3
        exact ⟨_, _, hr, .inr ⟨rfl, (.goto t), hIxp _ _ C _ _ _ hi3 (by omega) hl3 rfl, hl4⟩⟩
      | panic ch => exact hp.elim
      | outgrown => exact hp.elim
    · -- behind the iterator
      rintro e B ⟨⟨v, rfl⟩, (⟨hi, hl⟩ | ⟨k, hkK, c, hi, hl⟩)⟩
      · exact ⟨none, _, by have := run_endLoop (P := Try.prog) hl (by rw [hrec]; simp); rw [hrec] at this; exact this, hdone _ (hIp _ B _ _ _ hi (by omega) hl rfl)⟩
      · exact ⟨some c, _, by have := run_endLoop (P := Try.prog) hl (by rw [hrec]; simp); rw [hrec] at this; exact this, hstop c k _ hkK (hIxp c k B _ _ _ hi (by omega) hl rfl)⟩

end Go.Proofs.Ytmldgjhecoeldaa
