/- The examples of the chapter, as each law asks them ahead of all else: they all come out true. Words for the walks of the laws. A range over a function that hands out one value a round: the iterator's contract, and what its caller owes; regions that draw their order inside it. A range over a function: the iterator's contract, and what its caller owes, in a function and in a round of another such loop. point.coordinates: what it hands back hands out one coordinate of each point. Regions that draw their order, where what is read is written at the end: the condition is held until the first store. point.ends. point.Box. line.segments: what it hands back hands out the segments of a list. -/
import Derived.Test.YtoaldbjcpfkcjaaGreatcB2
import Derived.Test.YtoaldbjcpfkcjaaGreatcB1
import Derived.RangeFuncNested
import Derived.RangeFuncBound
import Derived.RangeFuncCalls
import Derived.RangeFuncLeaves
import Derived.Shelf.Abstract
import Derived.Shelf.RegionOpen
import Derived.OwnWalkIn
import Derived.TacticsInMore
import Derived.LoopNIn
import Derived.LoopIn
import Derived.OrdersIn
import Derived.Stop.RegionWithIn
namespace Go.Proofs.YtoaldbjcpfkcjaaGreat
open Go.RowKit Go.Lib

theorem on_is (a0 a1 b0 b1 p0 p1 : Int) (r : Bool) (h : onOf a0 a1 b0 b1 p0 p1 = r) (w : World) :
  Calls Tryz.prog 24 #[.agg #[.int .i64 a0, .int .i64 a1], .agg #[.int .i64 b0, .int .i64 b1], .agg #[.int .i64 p0, .int .i64 p1]] w fun e w' => e = .returned (.bool r) ∧ Below w.heap.size w w' := h ▸ on_any a0 a1 b0 b1 p0 p1 w
end Go.Proofs.YtoaldbjcpfkcjaaGreat

namespace Go.Proofs.YtoaldbjcpfkcjaaGreat
open Go.RowKit Go.Lib

theorem Has.eight {w0 w : World} {bs : List (Nat × List Value)} {A : Nat} {c0 c1 c2 c3 c4 c5 c6 c7 : Value} (h : Has w0 ((A, [c0, c1, c2, c3, c4, c5, c6, c7]) :: bs) w) :
  (w.cell? ⟨A, 0, none⟩ = some c0 ∧ w.cell? ⟨A, 1, none⟩ = some c1 ∧ w.cell? ⟨A, 2, none⟩ = some c2 ∧ w.cell? ⟨A, 3, none⟩ = some c3 ∧ w.cell? ⟨A, 4, none⟩ = some c4 ∧ w.cell? ⟨A, 5, none⟩ = some c5 ∧ w.cell? ⟨A, 6, none⟩ = some c6 ∧ w.cell? ⟨A, 7, none⟩ = some c7) ∧ Has w0 ((A, [c0, c1, c2, c3, c4, c5, c6, c7]) :: bs) w :=
 ⟨⟨h.fact (.head _) (i := 0) rfl, h.fact (.head _) (i := 1) rfl, h.fact (.head _) (i := 2) rfl, h.fact (.head _) (i := 3) rfl, h.fact (.head _) (i := 4) rfl, h.fact (.head _) (i := 5) rfl, h.fact (.head _) (i := 6) rfl, h.fact (.head _) (i := 7) rfl⟩, h⟩
end Go.Proofs.YtoaldbjcpfkcjaaGreat

namespace Go.Proofs.YtoaldbjcpfkcjaaGreat
open Go.RowKit Go.Lib

abbrev Grows (w w' : World) : Prop := Below w.heap.size w w'
theorem Grows.then {a b c : World} (h : Grows a b) (k : Grows b c) : Grows a c := h.trans (k.mono h.size)
theorem grows_putObj {w W : World} {i : Nat} (ob' : Obj) (h : Grows w W) (hi : w.heap.size ≤ i) : Grows w (W.putObj i ob') :=
 h.grown (grownBy_putObj' W i ob') h.size (fun r e => by cases e; exact hi)

/-- Levels come, one after the other, K + 1 of them; whoever is handed one finds it in memory, and leaves it there if there is to be a next one. -/
def LvSeq (n gf : Nat) (lb : Array Value) (K : Nat) (enc : Nat → Nat → Value) (Lv : Nat → Nat → World → Prop) (w0 : World) : Prop :=
 ∀ (l : Nat) (J Jx : Nat → World → Prop) (W : World), Grows w0 W → (∀ k A B, J k A → Grows A B → J k B) →
  (∀ k g A, k ≤ K → J k A → Lv g k A → YieldAt Fence.wide (n - 1) Tryz.prog l #[enc g k] A fun e B => (e = .returned (.bool true) ∧ J (k + 1) B ∧ Lv g k B) ∨ (e = .returned (.bool false) ∧ Jx k B)) →
  J 0 W → CallsIn Fence.wide n Tryz.prog gf (#[.func (.yield l) #[] #[]] ++ lb) W fun e W' => (∃ v, e = .returned v) ∧ (J (K + 1) W' ∨ ∃ k, k ≤ K ∧ Jx k W')

/-- How a round of the caller's may be left. -/
def lvPost (B : Nat) (I : World → Prop) (Ix : Code → World → Prop) (L : World → Prop) (W : World) : Exit → Act → World → Prop
 | .normal, _, W' => KeepsFrom B W W' ∧ I W' ∧ L W'
 | .ret, _, W' => KeepsFrom B W W' ∧ Ix .ret W'
 | .exit id, _, W' => KeepsFrom B W W' ∧ Ix (.exit id) W'
 | .goto t, _, W' => KeepsFrom B W W' ∧ Ix (.goto t) W'
 | .panic _, _, _ => False
 | .outgrown, _, _ => False

theorem heap_grows {A B : World} {i : Nat} {o : Obj} (h : Grows A B) (ho : A.heap[i]? = some o) : B.heap[i]? = some o :=
 (h.block i (Array.getElem?_eq_some_iff.1 ho).1).trans ho

/-- The loop, as its caller walks it. -/
theorem range_lv {g : Operand} {p : Tmp} {assign body : Code} {Q : Exit → Act → World → Prop} {a : Act} {w w0 : World} {n gf : Nat} {lb : Array Value} {K : Nat} {enc : Nat → Nat → Value} {Lv : Nat → Nat → World → Prop}
  (hg : a.eval g = .func (.func gf) #[] lb) (eg : ∀ args w, (callFunc gf args).run Tryz.prog w = .ok (.enter gf args) w) (hseq : LvSeq (n - 1) gf lb K enc Lv w0) (hb0 : Grows w0 w)
  (I : Nat → World → Prop) (Ix : Code → Nat → World → Prop) (hI : ∀ k A B, I k A → Grows A B → I k B)
  (hIp : ∀ k A l o o', I k A → w.heap.size ≤ l → A.heap[l]? = some o → o.isCells = false → I k (A.putObj l o'))
  (hIxp : ∀ c k A l o o', Ix c k A → w.heap.size ≤ l → A.heap[l]? = some o → o.isCells = false → Ix c k (A.putObj l o'))
  (hLp : ∀ g k A l o o', Lv g k A → A.heap[l]? = some o → o.isCells = false → Lv g k (A.putObj l o'))
  (h0 : I 0 w) (a₁ : Nat → Nat → Act)
  (hassign : ∀ l g k A (T : Act → World → Prop), T (a₁ g k) A → assign.wpIn (Fence.wide.inRound l) (n - 1 - 1) Tryz.prog (Exit.then T (fun _ _ _ => False)) { tmps := (#[p].zip #[enc g k]).foldl (fun t (p, v) => t.setIfInBounds p v) a.tmps, defers := [] } A)
  (hbody : ∀ l g k A, I k A → Lv g k A → k ≤ K → body.wpIn (Fence.wide.inRound l) (n - 1 - 1) Tryz.prog (lvPost w.heap.size (I (k + 1)) (fun c => Ix c k) (Lv g k) A) (a₁ g k) A)
  (hdone : ∀ D A, w.heap.size ≤ D → I (K + 1) A → A.heap[D]? = some (.deferred (some [])) → Q .normal { a with defers := { target := .collected D, args := #[] } :: a.defers } A)
  (hstop : ∀ D c k A, w.heap.size ≤ D → k ≤ K → Ix c k A → A.heap[D]? = some (.deferred (some [])) → c.wpIn Fence.wide n Tryz.prog Q { a with defers := { target := .collected D, args := #[] } :: a.defers } A) :
  (Code.rangeFunc g #[p] assign body).wpIn Fence.wide n Tryz.prog Q a w := by
 refine wpIn_rangeFunc fun fn hfn => ?_
 obtain ⟨rec, hrec⟩ : ∃ rec : LoopState → Option Code → Loop, rec = fun st pe => { state := st, pending := pe, fn, tmps := a.tmps, params := #[p], assign, body, defers := w.heap.size } := ⟨_, rfl⟩
 obtain ⟨W1, hW1⟩ : ∃ W1, (w.alloc (.deferred (some []))).alloc (.loop (rec .ready none)) = W1 := ⟨_, rfl⟩
 have g1 : Grows w W1 := by rw [← hW1]; exact ((Below.refl _ w).alloc (Nat.le_refl _) _).alloc (by simp) _
 have hL1 : W1.heap[w.heap.size + 1]? = some (.loop (rec .ready none)) := by
  rw [← hW1]; have := World.alloc_heap_new (w.alloc (.deferred (some []))) (.loop (rec .ready none)); rwa [World.size_alloc] at this
 have hK1 : W1.heap[w.heap.size]? = some (.deferred (some [])) := by
  rw [← hW1]; exact (Below.heap_alloc _ _ _ (by simp)).trans (World.alloc_heap_new w _)
 refine ⟨w.heap.size + 1, [{ target := .collected w.heap.size, args := #[] }], W1, { target := .fn (.func gf) lb, args := #[.func (.yield (w.heap.size + 1)) #[] #[]] }, W1, gf,
  #[.func (.yield (w.heap.size + 1)) #[] #[]] ++ lb, W1, ?_, ?_, fun _ _ => trivial, ?_, fun h => by simp [Fence.wide] at h, ?_⟩
 ·rw [← hW1, hrec]; exact run_enterLoop_outer _ _ _ _ _
 ·simp only [resolve, hg]
  simp [go_sem]
 ·simp [invoke, go_sem, eg]
 ·refine (hseq (w.heap.size + 1)
   (fun k A => I k A ∧ A.heap[w.heap.size + 1]? = some (.loop (rec .ready none)) ∧ A.heap[w.heap.size]? = some (.deferred (some [])))
   (fun k A => ∃ c, Ix c k A ∧ A.heap[w.heap.size + 1]? = some (.loop (rec .done (some c))) ∧ A.heap[w.heap.size]? = some (.deferred (some [])))
   W1 (hb0.then g1) (fun k A B hA hB => by obtain ⟨x1, x2, x3⟩ := hA; exact ⟨hI k A B x1 hB, heap_grows hB x2, heap_grows hB x3⟩) ?_ ⟨hI 0 w W1 h0 g1, hL1, hK1⟩).mono ?_
  ·-- one round
   rintro k gg A hkK ⟨hi, hl, hk⟩ hLv
   have hlt : w.heap.size + 1 < A.heap.size := (Array.getElem?_eq_some_iff.1 hl).1
   have hy := run_yield (P := Tryz.prog) (args := #[enc gg k]) hl (by rw [hrec]; rfl)
   rw [hrec] at hy
   refine ⟨fn, _, assign, body, hy, roundIn_of_wpIn hfn (hassign _ gg k A _ ⟨_, run_beginRound hl (by rw [hrec]), ?_⟩)⟩
   have hl2 : (A.putObj (w.heap.size + 1) (.loop { rec .ready none with state := .busy })).heap[w.heap.size + 1]? = some (.loop { rec .ready none with state := .busy }) := World.putObj_heap_same hlt
   have hk2 : (A.putObj (w.heap.size + 1) (.loop { rec .ready none with state := .busy })).heap[w.heap.size]? = some (.deferred (some [])) := (World.putObj_heap_other (by omega)).trans hk
   refine wpIn_mono (hbody _ gg k _ (hIp k A _ _ _ hi (by omega) hl rfl) (hLp gg k A _ _ _ hLv hl rfl) hkK) ?_
   have fin : ∀ (jump : Option Code) (B : World), KeepsFrom w.heap.size (A.putObj (w.heap.size + 1) (.loop { rec .ready none with state := .busy })) B →
     (Instr.endRound (w.heap.size + 1) jump).run Tryz.prog B = .ok (.bool jump.isNone) (B.putObj (w.heap.size + 1) (.loop (rec (if jump.isNone then .ready else .done) jump))) ∧
     B.heap[w.heap.size + 1]? = some (.loop { rec .ready none with state := .busy }) ∧
     (B.putObj (w.heap.size + 1) (.loop (rec (if jump.isNone then .ready else .done) jump))).heap[w.heap.size + 1]? = some (.loop (rec (if jump.isNone then .ready else .done) jump)) ∧
     (B.putObj (w.heap.size + 1) (.loop (rec (if jump.isNone then .ready else .done) jump))).heap[w.heap.size]? = some (.deferred (some [])) := fun jump B hk3 => by
    have hl3 := hk3.same _ _ (by omega) hl2 rfl
    have := run_endRound (P := Tryz.prog) jump hl3
    rw [hrec] at this ⊢
    exact ⟨this, by rw [hrec] at hl3; exact hl3, World.putObj_heap_same (Array.getElem?_eq_some_iff.1 hl3).1, (World.putObj_heap_other (by omega)).trans (hk3.same _ _ (Nat.le_refl _) hk2 rfl)⟩
   rintro e a3 B hp
   cases e with
   | normal =>
    obtain ⟨hk3, hi3, hL3⟩ := hp
    obtain ⟨hr, hl3, hl4, hk4⟩ := fin none B hk3
    exact ⟨_, _, hr, .inl ⟨rfl, ⟨hIp _ B _ _ _ hi3 (by omega) hl3 rfl, hl4, hk4⟩, hLp _ _ B _ _ _ hL3 hl3 rfl⟩⟩
   | ret =>
    obtain ⟨hk3, hi3⟩ := hp
    obtain ⟨hr, hl3, hl4, hk4⟩ := fin (some .ret) B hk3
    exact ⟨_, _, hr, .inr ⟨rfl, .ret, hIxp _ _ B _ _ _ hi3 (by omega) hl3 rfl, hl4, hk4⟩⟩
   | exit id =>
    obtain ⟨hk3, hi3⟩ := hp
    obtain ⟨hr, hl3, hl4, hk4⟩ := fin (some (.exit id)) B hk3
    exact ⟨_, _, hr, .inr ⟨rfl, .exit id, hIxp _ _ B _ _ _ hi3 (by omega) hl3 rfl, hl4, hk4⟩⟩
   | goto t =>
    obtain ⟨hk3, hi3⟩ := hp
    obtain ⟨hr, hl3, hl4, hk4⟩ := fin (some (.goto t)) B hk3
    exact ⟨_, _, hr, .inr ⟨rfl, .goto t, hIxp _ _ B _ _ _ hi3 (by omega) hl3 rfl, hl4, hk4⟩⟩
   | panic ch => exact hp.elim
   | outgrown => exact hp.elim
  ·-- behind the iterator
   rintro e B ⟨⟨v, rfl⟩, (⟨hi, hl, hk⟩ | ⟨k, hkK, c, hi, hl, hk⟩)⟩
   ·exact ⟨none, _, by have := run_endLoop (P := Tryz.prog) hl (by rw [hrec]; simp); rw [hrec] at this; exact this, hdone _ _ (Nat.le_refl _) (hIp _ B _ _ _ hi (by omega) hl rfl) ((World.putObj_heap_other (by omega)).trans hk)⟩
   ·exact ⟨some c, _, by have := run_endLoop (P := Tryz.prog) hl (by rw [hrec]; simp); rw [hrec] at this; exact this, hstop _ c k _ (Nat.le_refl _) hkK (hIxp c k B _ _ _ hi (by omega) hl rfl) ((World.putObj_heap_other (by omega)).trans hk)⟩

section
variable {P : Program} {ops : Array Oper} {Q : Exit → Act → World → Prop} {md : Region.Mode} {l n : Nat}

theorem rows_round {row : String} {args : Array Value} {w : World} {R : Value → World → Prop} (h : Rows P row args w R) : RowsIn (Fence.wide.inRound l) n P row args w R := fun c cs _ => by
 obtain ⟨v, w', r, s⟩ := h c cs
 exact ⟨v, w', r, stepsIn_wide.2 s⟩
theorem oper_round {o : Oper} {a : Act} {w : World} {K : Act → World → Prop} (hd : ∀ c, o.op ≠ .defer c) (h : o.wp P a w K Q) : o.wpIn (Fence.wide.inRound l) n P a w K Q := by
 unfold Oper.wp at h
 unfold Oper.wpIn
 refine ⟨fun _ _ => trivial, ?_⟩
 rw [Oper.semAt_plain _ _ _ hd]
 generalize (execOp a.eval o).run P w = r at *
 cases r with
 | ok x w' =>
  cases x <;> simp only [Oper.upon, Oper.uponIn] at h ⊢ <;> first
   | exact h
   | exact ⟨fun h => by simp [Fence.wide, Fence.inRound] at h, CallsIn.inRound l (callsIn_wide.2 h)⟩
   | exact ⟨fun h => by simp [Fence.wide, Fence.inRound] at h, rows_round h⟩
 | halt x w' => cases x <;> simp only [Oper.upon, Oper.uponIn] at h ⊢ <;> exact h
theorem op_round {i : Nat} {a : Act} {w : World} {K : Act → World → Prop} (hd : ∀ (i : Nat) (o : Oper), ops[i]? = some o → ∀ c, o.op ≠ .defer c) (hno : ¬ LetsOut Q) (h : wpOp P ops Q i K a w) : wpOpIn (Fence.wide.inRound l) n P ops Q i K a w := by
 unfold wpOp at h
 unfold wpOpIn
 cases ho : ops[i]? with
 | none => rw [ho] at h; exact h
 | some o =>
  rw [ho] at h
  simp only at h ⊢
  by_cases hw : Region.wanted o (yielded ops a.tmps) = true
  ·rw [if_pos hw] at h ⊢
   rcases h with h | h
   ·exact oper_round (hd i o ho) h
   ·exact absurd h.2 hno
  ·rw [if_neg hw] at h ⊢
   exact ⟨fun _ _ => trivial, h⟩
theorem any_round (hd : ∀ (i : Nat) (o : Oper), ops[i]? = some o → ∀ c, o.op ≠ .defer c) (hno : ¬ LetsOut Q) : ∀ (fuel : Nat) (listed : Array Bool) (a : Act) (w : World), wpAny P md ops Q fuel listed a w → wpAnyIn (Fence.wide.inRound l) n P md ops Q fuel listed a w
 | 0, _, _, _, h => h
 | fuel + 1, _, _, _, h => ⟨h.1, fun i hi => wpOpIn_mono (fun a' w' h' => any_round hd hno fuel _ a' w' h') (op_round hd hno (h.2 i hi))⟩
/-- The region, in a round. -/
theorem region_round {S : World → Prop} {id : Nat} {a : Act} {w : World} (hm : P.follows .mixedOrders = true) (hd : ∀ (i : Nat) (o : Oper), ops[i]? = some o → ∀ c, o.op ≠ .defer c) (hno : ¬ LetsOut Q) (hS : S w.drew)
  (h : S w.drew → wpAnyH P .any ops Q S ops.size (Array.replicate ops.size false) a w.drew) : (Code.region id ops true).wpIn (Fence.wide.inRound l) n P Q a w :=
 wpIn_region_any hm (any_round hd hno _ _ _ _ (wpAny_of_held _ _ _ _ (h hS)))
theorem defers_none (l : List Oper) (h : l.all (fun o => match o.op with | .defer _ => false | _ => true) = true) : ∀ (i : Nat) (o : Oper), l.toArray[i]? = some o → ∀ c, o.op ≠ .defer c := by
 intro i o ho c hc
 have hm : o ∈ l := List.mem_of_getElem? (by simpa using ho)
 have := (List.all_eq_true.1 h) o hm
 rw [hc] at this
 cases this
end

section
variable {P : Program} {ops : Array Oper} {Q : Exit → Act → World → Prop} {l n : Nat}
/-- A region that goes on, whatever the post says of other exits. -/
def Calm (Q : Exit → Act → World → Prop) : Exit → Act → World → Prop
 | .normal, a, w => Q .normal a w
 | _, _, _ => False
theorem Calm.imp : ∀ (e : Exit) (a : Act) (w : World), Calm Q e a w → Q e a w := fun e a w h => by
 cases e <;> first | exact h | exact (h : False).elim
theorem Calm.normal {a : Act} {w : World} (h : Q .normal a w) : Calm Q .normal a w := h
theorem region_calm {S : World → Prop} {id : Nat} {a : Act} {w : World} (hm : P.follows .mixedOrders = true) (hd : ∀ (i : Nat) (o : Oper), ops[i]? = some o → ∀ c, o.op ≠ .defer c) (hS : S w.drew)
  (h : S w.drew → wpAnyH P .any ops (Calm Q) S ops.size (Array.replicate ops.size false) a w.drew) : (Code.region id ops true).wpIn (Fence.wide.inRound l) n P Q a w :=
 wpIn_mono (region_round hm hd (fun ⟨_, _, h⟩ => h) hS h) Calm.imp
end


theorem Has.putObj {w0 W : World} {bs : List (Nat × List Value)} {i : Nat} {ob ob' : Obj} (h : Has w0 bs W) (hi : w0.heap.size ≤ i) (ho : W.heap[i]? = some ob) (hc : ob.isCells = false) : Has w0 bs (W.putObj i ob') :=
 ⟨fun p hp j v hv => by
   obtain ⟨h1, h2⟩ := h.c p hp j v hv
   exact ⟨cell_kept h1 (grownBy_putObj' W i ob') (fun r e => by cases e; exact ⟨ob, ho, hc⟩), (frozen_kept h1 (grownBy_putObj' W i ob') (fun r e => by cases e; exact ⟨ob, ho, hc⟩)).trans h2⟩,
  fun p hp => by rw [World.putObj_size]; exact h.lt p hp, h.ge, h.nd, grows_putObj ob' h.low hi⟩
theorem keeps_drew (B : Nat) (W : World) : KeepsFrom B W W.drew := ⟨Nat.le_refl _, fun _ _ _ h _ => h⟩
theorem keeps_cell {B b o : Nat} (W : World) (v : Value) (h : b < B) : KeepsFrom B W (W.setCell ⟨b, o, none⟩ v) :=
 ⟨by rw [World.size_setCell]; exact Nat.le_refl _, fun k ob hk ho _ => (Below.heap_setCell W ⟨b, o, none⟩ v k (by show k ≠ b; omega)).trans ho⟩

end Go.Proofs.YtoaldbjcpfkcjaaGreat

namespace Go.Proofs.YtoaldbjcpfkcjaaGreat
open Go.RowKit Go.Lib

/-- K rounds come, one after the other; who is called finds what is handed out in memory, and leaves it there. -/
def Seq (n gf : Nat) (lb : Array Value) (K : Nat) (enc : Nat → Array Value) (Lv : World → Prop) (w0 : World) : Prop :=
 ∀ (l : Nat) (J Jx : Nat → World → Prop) (W : World), Grows w0 W → (∀ k A B, J k A → Grows A B → J k B) → (∀ k A, J k A → Lv A) →
  (∀ k A, k < K → J k A → YieldAt Fence.wide (n - 1) Tryz.prog l (enc k) A fun e B => (e = .returned (.bool true) ∧ J (k + 1) B) ∨ (e = .returned (.bool false) ∧ Jx k B)) →
  (∀ k A B, Jx k A → Grows A B → Jx k B) →
  J 0 W → CallsIn Fence.wide n Tryz.prog gf (#[.func (.yield l) #[] #[]] ++ lb) W fun e W' => (∃ v, e = .returned v) ∧ (J K W' ∨ ∃ k, k < K ∧ Jx k W')

/-- How a round of the caller's may be left. -/
def sqPost (B : Nat) (I : World → Prop) (Ix : Code → World → Prop) (W : World) : Exit → Act → World → Prop
 | .normal, _, W' => KeepsFrom B W W' ∧ I W'
 | .ret, _, W' => KeepsFrom B W W' ∧ Ix .ret W'
 | .exit id, _, W' => KeepsFrom B W W' ∧ Ix (.exit id) W'
 | .goto t, _, W' => KeepsFrom B W W' ∧ Ix (.goto t) W'
 | .panic _, _, _ => False
 | .outgrown, _, _ => False

/-- What speaks of cells alone. -/
def OnCells (B : Nat) (I : World → Prop) : Prop := ∀ A l o o', I A → B ≤ l → A.heap[l]? = some o → o.isCells = false → I (A.putObj l o')

/-- The loop, as its caller walks it. -/
theorem range_sq {g : Operand} {ps : Array Tmp} {assign body : Code} {Q : Exit → Act → World → Prop} {a : Act} {w w0 : World} {n gf : Nat} {lb : Array Value} {K : Nat} {enc : Nat → Array Value} {Lv : World → Prop} (hg : a.eval g = .func (.func gf) #[] lb) (eg : ∀ args w, (callFunc gf args).run Tryz.prog w = .ok (.enter gf args) w) (hseq : Seq (n - 1) gf lb K enc Lv w0) (hb0 : Grows w0 w) (hps : ∀ k, (enc k).size = ps.size)
  (I : Nat → World → Prop) (Ix : Code → Nat → World → Prop) (Ax : Nat → Act → World → Prop) (hI : ∀ k A B, I k A → Grows A B → I k B) (hIx : ∀ c k A B, Ix c k A → Grows A B → Ix c k B) (hL : ∀ k A, I k A → Lv A)
  (hIp : ∀ k, OnCells w.heap.size (I k)) (hIxp : ∀ c k, OnCells w.heap.size (Ix c k)) (hAp : ∀ k a', OnCells w.heap.size (Ax k a')) (h0 : I 0 w)
  (hassign : ∀ l k A (T : Act → World → Prop), k < K → I k A → (∀ a' B, KeepsFrom w.heap.size A B → Ax k a' B → T a' B) →
   assign.wpIn (Fence.wide.inRound l) (n - 1 - 1) Tryz.prog (Exit.then T (fun _ _ _ => False)) { tmps := (ps.zip (enc k)).foldl (fun t (p, v) => t.setIfInBounds p v) a.tmps, defers := [] } A)
  (hbody : ∀ l k a' A, w.heap.size ≤ l → (∃ r, A.heap[l]? = some (.loop r)) → Ax k a' A → k < K → body.wpIn (Fence.wide.inRound l) (n - 1 - 1) Tryz.prog (sqPost w.heap.size (I (k + 1)) (fun c => Ix c k) A) a' A)
  (hdone : ∀ D A, w.heap.size ≤ D → I K A → A.heap[D]? = some (.deferred (some [])) → Q .normal { a with defers := { target := .collected D, args := #[] } :: a.defers } A)
  (hstop : ∀ D c k A, w.heap.size ≤ D → k < K → Ix c k A → A.heap[D]? = some (.deferred (some [])) → c.wpIn Fence.wide n Tryz.prog Q { a with defers := { target := .collected D, args := #[] } :: a.defers } A) :
  (Code.rangeFunc g ps assign body).wpIn Fence.wide n Tryz.prog Q a w := by
 refine wpIn_rangeFunc fun fn hfn => ?_
 obtain ⟨rec, hrec⟩ : ∃ rec : LoopState → Option Code → Loop, rec = fun st pe => { state := st, pending := pe, fn, tmps := a.tmps, params := ps, assign, body, defers := w.heap.size } := ⟨_, rfl⟩
 obtain ⟨W1, hW1⟩ : ∃ W1, (w.alloc (.deferred (some []))).alloc (.loop (rec .ready none)) = W1 := ⟨_, rfl⟩
 have g1 : Grows w W1 := by rw [← hW1]; exact ((Below.refl _ w).alloc (Nat.le_refl _) _).alloc (by simp) _
 have hL1 : W1.heap[w.heap.size + 1]? = some (.loop (rec .ready none)) := by
  rw [← hW1]; have := World.alloc_heap_new (w.alloc (.deferred (some []))) (.loop (rec .ready none)); rwa [World.size_alloc] at this
 have hK1 : W1.heap[w.heap.size]? = some (.deferred (some [])) := by
  rw [← hW1]; exact (Below.heap_alloc _ _ _ (by simp)).trans (World.alloc_heap_new w _)
 refine ⟨w.heap.size + 1, [{ target := .collected w.heap.size, args := #[] }], W1, { target := .fn (.func gf) lb, args := #[.func (.yield (w.heap.size + 1)) #[] #[]] }, W1, gf,
  #[.func (.yield (w.heap.size + 1)) #[] #[]] ++ lb, W1, ?_, ?_, fun _ _ => trivial, ?_, fun h => by simp [Fence.wide] at h, ?_⟩
 ·rw [← hW1, hrec]; exact run_enterLoop_outer _ _ _ _ _
 ·simp only [resolve, hg]
  simp [go_sem]
 ·simp [invoke, go_sem, eg]
 ·refine ((hseq (w.heap.size + 1)
   (fun k A => I k A ∧ A.heap[(w.heap.size + 1)]? = some (.loop (rec .ready none)) ∧ A.heap[w.heap.size]? = some (.deferred (some [])))
   (fun k A => ∃ c, Ix c k A ∧ A.heap[(w.heap.size + 1)]? = some (.loop (rec .done (some c))) ∧ A.heap[w.heap.size]? = some (.deferred (some [])))
   W1 (hb0.then g1) (fun k A B hA hB => by obtain ⟨x1, x2, x3⟩ := hA; exact ⟨hI k A B x1 hB, heap_grows hB x2, heap_grows hB x3⟩) (fun k A hA => hL k A hA.1) ?_ (fun k A B hA hB => by obtain ⟨c, x1, x2, x3⟩ := hA; exact ⟨c, hIx c k A B x1 hB, heap_grows hB x2, heap_grows hB x3⟩) ⟨hI 0 w W1 h0 g1, hL1, hK1⟩)).mono ?_
  ·-- one round
   rintro k A hkK ⟨hi, hl, hk⟩
   have hlt0 : (w.heap.size + 1) < A.heap.size := (Array.getElem?_eq_some_iff.1 hl).1
   have hy := run_yield (P := Tryz.prog) (args := enc k) hl (by rw [hrec]; exact hps k)
   rw [hrec] at hy
   refine ⟨fn, _, assign, body, hy, roundIn_of_wpIn hfn (hassign _ k A _ hkK hi ?_)⟩
   clear hy hlt0
   intro a' B hkf hax
   replace hl := hkf.same _ _ (by omega) hl rfl
   replace hk := hkf.same _ _ (Nat.le_refl _) hk rfl
   have hlt : (w.heap.size + 1) < B.heap.size := (Array.getElem?_eq_some_iff.1 hl).1
   refine ⟨_, run_beginRound hl (by rw [hrec]), ?_⟩
   have hl2 : (B.putObj (w.heap.size + 1) (.loop { rec .ready none with state := .busy })).heap[(w.heap.size + 1)]? = some (.loop { rec .ready none with state := .busy }) := World.putObj_heap_same hlt
   have hk2 : (B.putObj (w.heap.size + 1) (.loop { rec .ready none with state := .busy })).heap[w.heap.size]? = some (.deferred (some [])) := (World.putObj_heap_other (by omega)).trans hk
   refine wpIn_mono (hbody _ k a' _ (by omega) ⟨_, hl2⟩ (hAp k a' B _ _ _ hax (by omega) hl rfl) hkK) ?_
   have fin : ∀ (jump : Option Code) (C : World), KeepsFrom w.heap.size (B.putObj (w.heap.size + 1) (.loop { rec .ready none with state := .busy })) C →
     (Instr.endRound (w.heap.size + 1) jump).run Tryz.prog C = .ok (.bool jump.isNone) (C.putObj (w.heap.size + 1) (.loop (rec (if jump.isNone then .ready else .done) jump))) ∧
     C.heap[(w.heap.size + 1)]? = some (.loop { rec .ready none with state := .busy }) ∧
     (C.putObj (w.heap.size + 1) (.loop (rec (if jump.isNone then .ready else .done) jump))).heap[(w.heap.size + 1)]? = some (.loop (rec (if jump.isNone then .ready else .done) jump)) ∧
     (C.putObj (w.heap.size + 1) (.loop (rec (if jump.isNone then .ready else .done) jump))).heap[w.heap.size]? = some (.deferred (some [])) := fun jump C hk3 => by
    have hl3 := hk3.same _ _ (by omega) hl2 rfl
    have := run_endRound (P := Tryz.prog) jump hl3
    rw [hrec] at this ⊢
    exact ⟨this, by rw [hrec] at hl3; exact hl3, World.putObj_heap_same (Array.getElem?_eq_some_iff.1 hl3).1, (World.putObj_heap_other (by omega)).trans (hk3.same _ _ (Nat.le_refl _) hk2 rfl)⟩
   rintro e a3 C hp
   cases e with
   | normal =>
    obtain ⟨hk3, hi3⟩ := hp
    obtain ⟨hr, hl3, hl4, hk4⟩ := fin none C hk3
    exact ⟨_, _, hr, .inl ⟨rfl, hIp _ C _ _ _ hi3 (by omega) hl3 rfl, hl4, hk4⟩⟩
   | ret =>
    obtain ⟨hk3, hi3⟩ := hp
    obtain ⟨hr, hl3, hl4, hk4⟩ := fin (some .ret) C hk3
    exact ⟨_, _, hr, .inr ⟨rfl, .ret, hIxp _ _ C _ _ _ hi3 (by omega) hl3 rfl, hl4, hk4⟩⟩
   | exit id =>
    obtain ⟨hk3, hi3⟩ := hp
    obtain ⟨hr, hl3, hl4, hk4⟩ := fin (some (.exit id)) C hk3
    exact ⟨_, _, hr, .inr ⟨rfl, (.exit id), hIxp _ _ C _ _ _ hi3 (by omega) hl3 rfl, hl4, hk4⟩⟩
   | goto t =>
    obtain ⟨hk3, hi3⟩ := hp
    obtain ⟨hr, hl3, hl4, hk4⟩ := fin (some (.goto t)) C hk3
    exact ⟨_, _, hr, .inr ⟨rfl, (.goto t), hIxp _ _ C _ _ _ hi3 (by omega) hl3 rfl, hl4, hk4⟩⟩
   | panic ch => exact hp.elim
   | outgrown => exact hp.elim
  ·-- behind the iterator
   rintro e B ⟨⟨v, rfl⟩, (⟨hi, hl, hk⟩ | ⟨k, hkK, c, hi, hl, hk⟩)⟩
   ·exact ⟨none, _, by have := run_endLoop (P := Tryz.prog) hl (by rw [hrec]; simp); rw [hrec] at this; exact this, hdone _ _ (Nat.le_refl _) (hIp _ B _ _ _ hi (by omega) hl rfl) ((World.putObj_heap_other (by omega)).trans hk)⟩
   ·exact ⟨some c, _, by have := run_endLoop (P := Tryz.prog) hl (by rw [hrec]; simp); rw [hrec] at this; exact this, hstop _ c k _ (Nat.le_refl _) hkK (hIxp c k B _ _ _ hi (by omega) hl rfl) ((World.putObj_heap_other (by omega)).trans hk)⟩

/-- The loop, as its caller walks it, in a round of another one. -/
theorem range_sqN {g : Operand} {ps : Array Tmp} {assign body : Code} {Q : Exit → Act → World → Prop} {a : Act} {w w0 : World} {n gf : Nat} {lb : Array Value} {K : Nat} {enc : Nat → Array Value} {Lv : World → Prop} {l₀ : Nat} {r₀ : Loop} (hl₀ : w.heap[l₀]? = some (.loop r₀))
  (hg : a.eval g = .func (.func gf) #[] lb) (eg : ∀ args w, (callFunc gf args).run Tryz.prog w = .ok (.enter gf args) w) (hseq : Seq (n - 1) gf lb K enc Lv w0) (hb0 : Grows w0 w) (hps : ∀ k, (enc k).size = ps.size)
  (I : Nat → World → Prop) (Ix : Code → Nat → World → Prop) (Ax : Nat → Act → World → Prop) (hI : ∀ k A B, I k A → Grows A B → I k B) (hIx : ∀ c k A B, Ix c k A → Grows A B → Ix c k B) (hL : ∀ k A, I k A → Lv A)
  (hIp : ∀ k, OnCells w.heap.size (I k)) (hIxp : ∀ c k, OnCells w.heap.size (Ix c k)) (hAp : ∀ k a', OnCells w.heap.size (Ax k a')) (h0 : I 0 w)
  (hassign : ∀ l k A (T : Act → World → Prop), k < K → I k A → (∀ a' B, KeepsFrom w.heap.size A B → Ax k a' B → T a' B) →
   assign.wpIn (Fence.wide.inRound l) (n - 1 - 1) Tryz.prog (Exit.then T (fun _ _ _ => False)) { tmps := (ps.zip (enc k)).foldl (fun t (p, v) => t.setIfInBounds p v) a.tmps, defers := [] } A)
  (hbody : ∀ l k a' A, w.heap.size ≤ l → (∃ r, A.heap[l]? = some (.loop r)) → Ax k a' A → k < K → body.wpIn (Fence.wide.inRound l) (n - 1 - 1) Tryz.prog (sqPost w.heap.size (I (k + 1)) (fun c => Ix c k) A) a' A)
  (hdone : ∀ A, I K A → Q .normal a A)
  (hstop : ∀ c k A, k < K → Ix c k A → c.wpIn (Fence.wide.inRound l₀) n Tryz.prog Q a A) :
  (Code.rangeFunc g ps assign body).wpIn (Fence.wide.inRound l₀) n Tryz.prog Q a w := by
 refine wpIn_rangeFunc fun fn hfn => ?_
 obtain ⟨rec, hrec⟩ : ∃ rec : LoopState → Option Code → Loop, rec = fun st pe => { state := st, pending := pe, fn, tmps := a.tmps, params := ps, assign, body, defers := r₀.defers } := ⟨_, rfl⟩
 obtain ⟨W1, hW1⟩ : ∃ W1, w.alloc (.loop (rec .ready none)) = W1 := ⟨_, rfl⟩
 have g1 : Grows w W1 := by rw [← hW1]; exact (Below.refl _ w).alloc (Nat.le_refl _) _
 have hL1 : W1.heap[w.heap.size]? = some (.loop (rec .ready none)) := by rw [← hW1]; exact World.alloc_heap_new w _
 refine ⟨w.heap.size, [], W1, { target := .fn (.func gf) lb, args := #[.func (.yield w.heap.size) #[] #[]] }, W1, gf,
  #[.func (.yield w.heap.size) #[] #[]] ++ lb, W1, ?_, ?_, fun _ _ => trivial, ?_, fun h => by simp [Fence.wide, Fence.inRound] at h, ?_⟩
 ·rw [← hW1, hrec]; exact run_enterLoop_inner hl₀ _ _ _ _ _
 ·simp only [resolve, hg]
  simp [go_sem]
 ·simp [invoke, go_sem, eg]
 ·refine (CallsIn.inRound l₀ (hseq w.heap.size
   (fun k A => I k A ∧ A.heap[w.heap.size]? = some (.loop (rec .ready none)))
   (fun k A => ∃ c, Ix c k A ∧ A.heap[w.heap.size]? = some (.loop (rec .done (some c))))
   W1 (hb0.then g1) (fun k A B hA hB => by obtain ⟨x1, x2⟩ := hA; exact ⟨hI k A B x1 hB, heap_grows hB x2⟩) (fun k A hA => hL k A hA.1) ?_ (fun k A B hA hB => by obtain ⟨c, x1, x2⟩ := hA; exact ⟨c, hIx c k A B x1 hB, heap_grows hB x2⟩) ⟨hI 0 w W1 h0 g1, hL1⟩)).mono ?_
  ·-- one round
   rintro k A hkK ⟨hi, hl⟩
   have hlt0 : w.heap.size < A.heap.size := (Array.getElem?_eq_some_iff.1 hl).1
   have hy := run_yield (P := Tryz.prog) (args := enc k) hl (by rw [hrec]; exact hps k)
   rw [hrec] at hy
   refine ⟨fn, _, assign, body, hy, roundIn_of_wpIn hfn (hassign _ k A _ hkK hi ?_)⟩
   clear hy hlt0
   intro a' B hkf hax
   replace hl := hkf.same _ _ (by omega) hl rfl

   have hlt : w.heap.size < B.heap.size := (Array.getElem?_eq_some_iff.1 hl).1
   refine ⟨_, run_beginRound hl (by rw [hrec]), ?_⟩
   have hl2 : (B.putObj w.heap.size (.loop { rec .ready none with state := .busy })).heap[w.heap.size]? = some (.loop { rec .ready none with state := .busy }) := World.putObj_heap_same hlt

   refine wpIn_mono (hbody _ k a' _ (by omega) ⟨_, hl2⟩ (hAp k a' B _ _ _ hax (by omega) hl rfl) hkK) ?_
   have fin : ∀ (jump : Option Code) (C : World), KeepsFrom w.heap.size (B.putObj w.heap.size (.loop { rec .ready none with state := .busy })) C →
     (Instr.endRound w.heap.size jump).run Tryz.prog C = .ok (.bool jump.isNone) (C.putObj w.heap.size (.loop (rec (if jump.isNone then .ready else .done) jump))) ∧
     C.heap[w.heap.size]? = some (.loop { rec .ready none with state := .busy }) ∧
     (C.putObj w.heap.size (.loop (rec (if jump.isNone then .ready else .done) jump))).heap[w.heap.size]? = some (.loop (rec (if jump.isNone then .ready else .done) jump)) := fun jump C hk3 => by
    have hl3 := hk3.same _ _ (by omega) hl2 rfl
    have := run_endRound (P := Tryz.prog) jump hl3
    rw [hrec] at this ⊢
    exact ⟨this, by rw [hrec] at hl3; exact hl3, World.putObj_heap_same (Array.getElem?_eq_some_iff.1 hl3).1⟩
   rintro e a3 C hp
   cases e with
   | normal =>
    obtain ⟨hk3, hi3⟩ := hp
    obtain ⟨hr, hl3, hl4⟩ := fin none C hk3
    exact ⟨_, _, hr, .inl ⟨rfl, hIp _ C _ _ _ hi3 (by omega) hl3 rfl, hl4⟩⟩
   | ret =>
    obtain ⟨hk3, hi3⟩ := hp
    obtain ⟨hr, hl3, hl4⟩ := fin (some .ret) C hk3
    exact ⟨_, _, hr, .inr ⟨rfl, .ret, hIxp _ _ C _ _ _ hi3 (by omega) hl3 rfl, hl4⟩⟩
   | exit id =>
    obtain ⟨hk3, hi3⟩ := hp
    obtain ⟨hr, hl3, hl4⟩ := fin (some (.exit id)) C hk3
    exact ⟨_, _, hr, .inr ⟨rfl, (.exit id), hIxp _ _ C _ _ _ hi3 (by omega) hl3 rfl, hl4⟩⟩
   | goto t =>
    obtain ⟨hk3, hi3⟩ := hp
    obtain ⟨hr, hl3, hl4⟩ := fin (some (.goto t)) C hk3
    exact ⟨_, _, hr, .inr ⟨rfl, (.goto t), hIxp _ _ C _ _ _ hi3 (by omega) hl3 rfl, hl4⟩⟩
   | panic ch => exact hp.elim
   | outgrown => exact hp.elim
  ·-- behind the iterator
   rintro e B ⟨⟨v, rfl⟩, (⟨hi, hl⟩ | ⟨k, hkK, c, hi, hl⟩)⟩
   ·exact ⟨none, _, by have := run_endLoop (P := Tryz.prog) hl (by rw [hrec]; simp); rw [hrec] at this; exact this, hdone _ (hIp _ B _ _ _ hi (by omega) hl rfl)⟩
   ·exact ⟨some c, _, by have := run_endLoop (P := Tryz.prog) hl (by rw [hrec]; simp); rw [hrec] at this; exact this, hstop c k _ hkK (hIxp c k B _ _ _ hi (by omega) hl rfl)⟩

end Go.Proofs.YtoaldbjcpfkcjaaGreat

namespace Go.Proofs.YtoaldbjcpfkcjaaGreat
open Go.RowKit Go.Lib

/-- The cells of a world are what they were. -/
def Kept (w0 W : World) : Prop := ∀ ad v, w0.cell? ad = some v → W.cell? ad = some v
theorem Kept.of {w0 W : World} (g : Grows w0 W) : Kept w0 W := fun _ _ h => (g.cell (World.block_lt_of_cell? w0 _ h)).trans h
theorem Kept.later {w0 W W' : World} (h : Kept w0 W) (g : Grows W W') : Kept w0 W' := fun _ _ c => Kept.of g _ _ (h _ _ c)
theorem Kept.putObj {w0 W : World} {i : Nat} {o o' : Obj} (h : Kept w0 W) (ho : W.heap[i]? = some o) (hc : o.isCells = false) : Kept w0 (W.putObj i o') := fun _ _ c =>
 cell_kept (h _ _ c) (grownBy_putObj' W i o') (fun r e => by cases e; exact ⟨o, ho, hc⟩)
theorem Kept.set {w0 W : World} (h : Kept w0 W) {b o : Nat} (hb : w0.heap.size ≤ b) (u : Value) : Kept w0 (W.setCell ⟨b, o, none⟩ u) := fun ad v c => by
 rw [World.cell?_setCell_other (h := by intro e; have := World.block_lt_of_cell? w0 _ c; rw [← e] at this; simp only at this; omega)]
 exact h _ _ c
theorem Kept.drew {w0 W : World} (h : Kept w0 W) : Kept w0 W.drew := h
/-- Points in memory, as a slice holds them. -/
def RowP (w : World) (v : Value) (ps : List (Int × Int)) : Prop :=
 ∃ a cap, v = .slice a ps.length cap ∧ ps.length ≤ cap ∧ (cap : Int) ≤ 9223372036854775807 ∧ (ps = [] ∨ ∃ b o, a = some ⟨b, o, none⟩ ∧ ∀ i p, ps[i]? = some p → w.cell? ⟨b, o + i * 2, none⟩ = some (.int .i64 p.1) ∧ w.cell? ⟨b, o + i * 2 + 1, none⟩ = some (.int .i64 p.2))
theorem RowP.later {w w' : World} {v : Value} {ps : List (Int × Int)} (h : RowP w v ps) (g : Grows w w') : RowP w' v ps := by
 obtain ⟨a, cap, h1, h2, h3, h4⟩ := h
 refine ⟨a, cap, h1, h2, h3, h4.imp id ?_⟩
 rintro ⟨b, o, e, h⟩
 refine ⟨b, o, e, fun i p hp => ?_⟩
 obtain ⟨c0, c1⟩ := h i p hp
 exact ⟨(g.cell (World.block_lt_of_cell? w _ c0)).trans c0, (g.cell (World.block_lt_of_cell? w _ c1)).trans c1⟩
/-- One coordinate of the k-th point. -/
def pk (sel : Int × Int → Int) (ps : List (Int × Int)) (k : Nat) : Int := sel ((ps[k]?).getD (0, 0))
/-- The least and the greatest one of the first k. -/
def lo (sel : Int × Int → Int) (ps : List (Int × Int)) (k : Nat) : Int := (ps.take k).foldl (fun m p => min m (sel p)) 9223372036854775807
def hi (sel : Int × Int → Int) (ps : List (Int × Int)) (k : Nat) : Int := (ps.take k).foldl (fun m p => max m (sel p)) (-9223372036854775808)
theorem take_pk {ps : List (Int × Int)} {k : Nat} (h : k < ps.length) : ps.take (k + 1) = ps.take k ++ [(ps[k]?).getD (0, 0)] := by
 rw [List.take_add_one, List.getElem?_eq_getElem h]; rfl
theorem lo_next {sel : Int × Int → Int} {ps : List (Int × Int)} {k : Nat} (h : k < ps.length) : lo sel ps (k + 1) = min (lo sel ps k) (pk sel ps k) := by
 unfold lo; rw [take_pk h, List.foldl_append]; rfl
theorem hi_next {sel : Int × Int → Int} {ps : List (Int × Int)} {k : Nat} (h : k < ps.length) : hi sel ps (k + 1) = max (hi sel ps k) (pk sel ps k) := by
 unfold hi; rw [take_pk h, List.foldl_append]; rfl

theorem coords_any (a : Option Addr) (n c F : Nat) (w : World) : Calls Tryz.prog 71 #[.slice a n c, .func (.func F) #[] #[]] w fun e w' => e = .returned (.func (.func 113) #[] #[.pointer (some ⟨w.heap.size, 0, none⟩), .pointer (some ⟨w.heap.size + 1, 0, none⟩)]) ∧ (w.alloc (.cells #[.slice a n c] 42)).alloc (.cells #[.func (.func F) #[] #[]] 107) = w' := by
 go_enter Tryz.func71, Tryz.ntmps71
 go_wp2_with fail
 go_ret
 exact ⟨rfl, rfl⟩
theorem box47_any (x y : Int) (w : World) : Calls Tryz.prog 72 #[.agg #[.int .i64 x, .int .i64 y]] w fun e w' => e = .returned (.int .i64 x) ∧ Below w.heap.size w w' := by
 have C0 := has1 (w := w) [.int .i64 x, .int .i64 y] 37
 go_enter Tryz.func72, Tryz.ntmps72
 go_wp2_with fail
 change Has w _ (w.alloc (.cells #[.int .i64 x, .int .i64 y] 37)) at C0
 generalize w.alloc (.cells #[.int .i64 x, .int .i64 y] 37) = w0 at *
 obtain ⟨k0, k1⟩ := C0.pt
 go_wp2_with fail
 go_ret
 exact ⟨rfl, C0.low⟩
theorem box48_any (x y : Int) (w : World) : Calls Tryz.prog 73 #[.agg #[.int .i64 x, .int .i64 y]] w fun e w' => e = .returned (.int .i64 y) ∧ Below w.heap.size w w' := by
 have C0 := has1 (w := w) [.int .i64 x, .int .i64 y] 37
 go_enter Tryz.func73, Tryz.ntmps73
 go_wp2_with fail
 change Has w _ (w.alloc (.cells #[.int .i64 x, .int .i64 y] 37)) at C0
 generalize w.alloc (.cells #[.int .i64 x, .int .i64 y] 37) = w0 at *
 obtain ⟨k0, k1⟩ := C0.pt
 go_wp2_with fail
 go_ret
 exact ⟨rfl, C0.low⟩

set_option maxRecDepth 100000 in
set_option maxHeartbeats 2000000 in
theorem iter47_seq (n : Nat) (ps : List (Int × Int)) (v : Value) (B C : Nat) (w0 : World) (hv : RowP w0 v ps) (hB : w0.cell? ⟨B, 0, none⟩ = some v) (hC : w0.cell? ⟨C, 0, none⟩ = some (.func (.func 72) #[] #[])) (hne : 1 ≤ ps.length) :
  LvSeq n 113 #[.pointer (some ⟨B, 0, none⟩), .pointer (some ⟨C, 0, none⟩)] (ps.length - 1) (fun _ k => .int .i64 (pk Prod.fst ps k)) (fun _ _ W => Kept w0 W) w0 := by
 intro l J Jx W hW hJ hY h0
 obtain ⟨a, cap, rfl, hc1, hc2, hq⟩ := hv
 replace hq : ∃ b o, a = some ⟨b, o, none⟩ ∧ ∀ i p, ps[i]? = some p → w0.cell? ⟨b, o + i * 2, none⟩ = some (.int .i64 p.1) ∧ w0.cell? ⟨b, o + i * 2 + 1, none⟩ = some (.int .i64 p.2) := by
  rcases hq with rfl | h
  ·simp at hne
  ·exact h
 obtain ⟨b, o, rfl, hq⟩ := hq
 have hB' : W.cell? ⟨B, 0, none⟩ = some (.slice (some ⟨b, o, none⟩) ps.length cap) := (hW.cell (World.block_lt_of_cell? w0 _ hB)).trans hB
 have HC := Lib.hid hC
 have HQ := Lib.hid hq
 have HJ := Lib.hid hJ
 have HY := Lib.hid hY
 clear hJ hY hB hC hq
 refine callsIn_of_wp Tryz.func113 rfl trivial ?_ rfl
 simp only [Tryz.ntmps113, List.size_toArray, List.length_cons, List.length_nil, Nat.reduceAdd, Nat.reduceSub, Array.replicate_succ, Array.replicate_zero, List.push_toArray, List.append_toArray, List.nil_append, List.cons_append]
 gi_wp2_with fail
 gi_loopw [8] (fun i wr => ∃ k : Nat, k ≤ ps.length ∧ i = .int .i64 k ∧ J k wr ∧ Kept w0 wr) (fun i _ => ps.length - (RowKit.intOf i).toNat)
 case atStart => exact ⟨0, Nat.zero_le _, rfl, h0, Kept.of hW⟩
 case round =>
  clear h0 hW hB'
  obtain ⟨k, hk, rfl, hJk, hG⟩ := hrel
  by_cases hlt : k < ps.length
  ·obtain ⟨p, hp⟩ : ∃ p, ps[k]? = some p := ⟨_, List.getElem?_eq_getElem hlt⟩
   obtain ⟨x, y⟩ := p
   obtain ⟨d0, d1⟩ := HQ.out k _ hp
   have c0 := hG _ _ d0
   have c1 := hG _ _ d1
   simp only at c0 c1
   have hpk := Lib.hid (show pk Prod.fst ps k = x by unfold pk; rw [hp]; rfl)
   clear d0 d1 hp
   have E := has1 (w := wr) [.int .i64 x, .int .i64 y] 37
   change Has wr _ (wr.alloc (.cells #[.int .i64 x, .int .i64 y] 37)) at E
   have gz : Grows wr (wr.alloc (.cells #[.int .i64 x, .int .i64 y] 37)) := E.low
   obtain ⟨k0, k1⟩ := E.pt
   have hz := hG.later gz
   have kc := hz _ _ HC.out
   gi_wp2_with fail
   refine ⟨trivial, fun h => by simp [Fence.wide] at h, (callsIn_wide.2 (box47_any x y _)).mono ?_⟩
   rintro e z1 ⟨rfl, g1⟩
   have hJ1 := HJ.out _ _ _ hJk (gz.then g1)
   have hz1 := hz.later g1
   clear k0 k1 kc c0 c1 gz g1 hz E hJk hG
   obtain ⟨fn, tmps, assign, body, hy, hR⟩ := HY.out k 0 z1 (by omega) hJ1 hz1
   clear hJ1 hz1
   rw [hpk.out] at hy
   gi_wp2_with fail
   refine ⟨fun h => by simp [Fence.wide] at h, hR.mono ?_⟩
   rintro e A (⟨rfl, hJ', hL'⟩ | ⟨rfl, hJx'⟩)
   ·clear hR hy
    gi_wp2_with fail
    go_roundw
    case rel => exact ⟨k + 1, by omega, by go_num, hJ', hL'⟩
    case measure => simp [RowKit.intOf]; omega
   ·clear hR hy
    gi_wp2_with fail
    refine bodyPost_ret (results_none rfl _ _ _) rfl ?_
    exact ⟨⟨_, rfl⟩, .inr ⟨k, by omega, hJx'⟩⟩
  ·obtain rfl : k = ps.length := by omega
   gi_wp2_with fail
   go_end0
   exact ⟨⟨_, rfl⟩, .inl (by rw [Nat.sub_add_cancel hne]; exact hJk)⟩

set_option maxRecDepth 100000 in
set_option maxHeartbeats 2000000 in
theorem iter48_seq (n : Nat) (ps : List (Int × Int)) (v : Value) (B C : Nat) (w0 : World) (hv : RowP w0 v ps) (hB : w0.cell? ⟨B, 0, none⟩ = some v) (hC : w0.cell? ⟨C, 0, none⟩ = some (.func (.func 73) #[] #[])) (hne : 1 ≤ ps.length) :
  LvSeq n 113 #[.pointer (some ⟨B, 0, none⟩), .pointer (some ⟨C, 0, none⟩)] (ps.length - 1) (fun _ k => .int .i64 (pk Prod.snd ps k)) (fun _ _ W => Kept w0 W) w0 := by
 intro l J Jx W hW hJ hY h0
 obtain ⟨a, cap, rfl, hc1, hc2, hq⟩ := hv
 replace hq : ∃ b o, a = some ⟨b, o, none⟩ ∧ ∀ i p, ps[i]? = some p → w0.cell? ⟨b, o + i * 2, none⟩ = some (.int .i64 p.1) ∧ w0.cell? ⟨b, o + i * 2 + 1, none⟩ = some (.int .i64 p.2) := by
  rcases hq with rfl | h
  ·simp at hne
  ·exact h
 obtain ⟨b, o, rfl, hq⟩ := hq
 have hB' : W.cell? ⟨B, 0, none⟩ = some (.slice (some ⟨b, o, none⟩) ps.length cap) := (hW.cell (World.block_lt_of_cell? w0 _ hB)).trans hB
 have HC := Lib.hid hC
 have HQ := Lib.hid hq
 have HJ := Lib.hid hJ
 have HY := Lib.hid hY
 clear hJ hY hB hC hq
 refine callsIn_of_wp Tryz.func113 rfl trivial ?_ rfl
 simp only [Tryz.ntmps113, List.size_toArray, List.length_cons, List.length_nil, Nat.reduceAdd, Nat.reduceSub, Array.replicate_succ, Array.replicate_zero, List.push_toArray, List.append_toArray, List.nil_append, List.cons_append]
 gi_wp2_with fail
 gi_loopw [8] (fun i wr => ∃ k : Nat, k ≤ ps.length ∧ i = .int .i64 k ∧ J k wr ∧ Kept w0 wr) (fun i _ => ps.length - (RowKit.intOf i).toNat)
 case atStart => exact ⟨0, Nat.zero_le _, rfl, h0, Kept.of hW⟩
 case round =>
  clear h0 hW hB'
  obtain ⟨k, hk, rfl, hJk, hG⟩ := hrel
  by_cases hlt : k < ps.length
  ·obtain ⟨p, hp⟩ : ∃ p, ps[k]? = some p := ⟨_, List.getElem?_eq_getElem hlt⟩
   obtain ⟨x, y⟩ := p
   obtain ⟨d0, d1⟩ := HQ.out k _ hp
   have c0 := hG _ _ d0
   have c1 := hG _ _ d1
   simp only at c0 c1
   have hpk := Lib.hid (show pk Prod.snd ps k = y by unfold pk; rw [hp]; rfl)
   clear d0 d1 hp
   have E := has1 (w := wr) [.int .i64 x, .int .i64 y] 37
   change Has wr _ (wr.alloc (.cells #[.int .i64 x, .int .i64 y] 37)) at E
   have gz : Grows wr (wr.alloc (.cells #[.int .i64 x, .int .i64 y] 37)) := E.low
   obtain ⟨k0, k1⟩ := E.pt
   have hz := hG.later gz
   have kc := hz _ _ HC.out
   gi_wp2_with fail
   refine ⟨trivial, fun h => by simp [Fence.wide] at h, (callsIn_wide.2 (box48_any x y _)).mono ?_⟩
   rintro e z1 ⟨rfl, g1⟩
   have hJ1 := HJ.out _ _ _ hJk (gz.then g1)
   have hz1 := hz.later g1
   clear k0 k1 kc c0 c1 gz g1 hz E hJk hG
   obtain ⟨fn, tmps, assign, body, hy, hR⟩ := HY.out k 0 z1 (by omega) hJ1 hz1
   clear hJ1 hz1
   rw [hpk.out] at hy
   gi_wp2_with fail
   refine ⟨fun h => by simp [Fence.wide] at h, hR.mono ?_⟩
   rintro e A (⟨rfl, hJ', hL'⟩ | ⟨rfl, hJx'⟩)
   ·clear hR hy
    gi_wp2_with fail
    go_roundw
    case rel => exact ⟨k + 1, by omega, by go_num, hJ', hL'⟩
    case measure => simp [RowKit.intOf]; omega
   ·clear hR hy
    gi_wp2_with fail
    refine bodyPost_ret (results_none rfl _ _ _) rfl ?_
    exact ⟨⟨_, rfl⟩, .inr ⟨k, by omega, hJx'⟩⟩
  ·obtain rfl : k = ps.length := by omega
   gi_wp2_with fail
   go_end0
   exact ⟨⟨_, rfl⟩, .inl (by rw [Nat.sub_add_cancel hne]; exact hJk)⟩

end Go.Proofs.YtoaldbjcpfkcjaaGreat

namespace Go.Proofs.YtoaldbjcpfkcjaaGreat
open Go.RowKit Go.Lib

section
variable {P : Program} {ops : Array Oper} {Q : Exit → Act → World → Prop} {md : Region.Mode} {S : World → Prop} {z : Nat}

/-- Whatever order is picked from here on, and S holds behind every operation until number z has come up. -/
def wpAnyZ (P : Program) (md : Region.Mode) (ops : Array Oper) (Q : Exit → Act → World → Prop) (S : World → Prop) (z : Nat) : Nat → Array Bool → Act → World → Prop
 | 0, listed, a, w => Region.ready md ops listed = [] ∧ Q .normal a w
 | fuel + 1, listed, a, w =>
  (Region.ready md ops listed = [] → Q .normal a w) ∧
  ∀ i ∈ Region.ready md ops listed, wpOp P ops Q i (fun a' w' => (S w' ∨ (listed.setIfInBounds i true).getD z true = true) ∧ wpAnyZ P md ops Q S z fuel (listed.setIfInBounds i true) a' w') a w
theorem wpAny_of_Z : ∀ (fuel : Nat) (listed : Array Bool) (a : Act) (w : World), wpAnyZ P md ops Q S z fuel listed a w → wpAny P md ops Q fuel listed a w
 | 0, _, _, _, h => h
 | fuel + 1, _, _, _, h => ⟨h.1, fun i hi => wpOp_mono (fun a' w' h' => wpAny_of_Z fuel _ a' w' h'.2) (h.2 i hi)⟩
theorem wpAnyZ_of_H : ∀ (fuel : Nat) (listed : Array Bool) (a : Act) (w : World), listed.getD z true = true → wpAnyH P md ops Q (fun _ => True) fuel listed a w → wpAnyZ P md ops Q S z fuel listed a w
 | 0, _, _, _, _, h => h
 | fuel + 1, listed, _, _, hz, h => ⟨h.1, fun i hi => wpOp_mono (fun a' w' h' => by
   have hz' : (listed.setIfInBounds i true).getD z true = true := by
    by_cases e : i = z
    ·subst e
     by_cases hl : i < listed.size
     ·simp [hl]
     ·simp [hl]
    ·rw [getD_set_ne true e]; exact hz
   exact ⟨.inr hz', wpAnyZ_of_H fuel _ a' w' hz' h'.2⟩) (h.2 i hi)⟩

theorem wpAnyZ_first {i : Nat} {oi oz : Oper} {v : Value} (hi : ops[i]? = some oi) (hoz : ops[z]? = some oz) (hzi : oz.after.any (fun e => Region.binds md e && e.on == i) = true) (hsel : ∀ (j : Nat) (o : Oper) cs b, ops[j]? = some o → o.op ≠ .select cs b)
  (hQ : ∀ c a w, Q (.panic c) (a.put oi.dst v) w → Q (.panic c) a w) (hzne : z ≠ i) :
  ∀ (fuel : Nat) (listed : Array Bool) (a : Act) (w : World),
   (∀ j oj, ops[j]? = some oj → j ≠ i → listed.getD j true = false → (∀ e ∈ oj.after, Region.binds md e = true → e.on ≠ i) → oi.apart ops oj = true) →
   i ∈ Region.ready md ops listed → YieldsIf P ops S oi v a → listed.getD z true = false → S w →
   wpAnyZ P md ops Q S z fuel (listed.setIfInBounds i true) (a.put oi.dst v) w → wpAnyZ P md ops Q S z (fuel + 1) listed a w := by
 intro fuel
 induction fuel with
 | zero =>
  intro listed a w _ hr hy hz hS H
  refine ⟨fun h => (by rw [h] at hr; cases hr), fun j hj => ?_⟩
  by_cases hji : j = i
  ·subst hji; exact hy.wpOp hi hS ⟨.inl hS, H⟩
  ·have := ready_mono hj hji
   rw [H.1] at this
   cases this
 | succ fuel ih =>
  intro listed a w hfree hr hy hz hS H
  refine ⟨fun h => (by rw [h] at hr; cases hr), fun j hj => ?_⟩
  by_cases hji : j = i
  ·subst hji; exact hy.wpOp hi hS ⟨.inl hS, H⟩
  ·have h1 := H.2 j (ready_mono hj hji)
   obtain ⟨hjun, oj, hoj, hall⟩ := mem_ready.1 hj
   have hnot : ∀ e ∈ oj.after, Region.binds md e = true → e.on ≠ i := fun e he hb heq => by
    have h1 := hall e he hb
    have h0 := (mem_ready.1 hr).1
    rw [heq] at h1
    rcases Nat.lt_or_ge i listed.size with h' | h'
    ·simp [h'] at h0 h1; rw [h0] at h1; cases h1
    ·simp [Array.getElem?_eq_none h'] at h1
   have hjz : j ≠ z := fun e => by
    subst e
    rw [hoz] at hoj
    cases hoj
    obtain ⟨q, hq, hb⟩ := Array.any_eq_true.1 hzi
    simp only [Bool.and_eq_true, beq_iff_eq] at hb
    exact hnot _ (Array.getElem_mem hq) hb.1 hb.2
   have h2 := wpOp_putIf hoj (hfree j oj hoj hji hjun hnot) (fun cs b => hsel i oi cs b hi) (fun cs b => hsel j oj cs b hoj) hQ hy h1
   have hfree' : ∀ k ok, ops[k]? = some ok → k ≠ i → (listed.setIfInBounds j true).getD k true = false →
     (∀ e ∈ ok.after, Region.binds md e = true → e.on ≠ i) → oi.apart ops ok = true := fun k ok hk hki hun hno => by
    refine hfree k ok hk hki ?_ hno
    by_cases hjk : j = k
    ·subst hjk; exact hjun
    ·rw [getD_set_ne true hjk] at hun; exact hun
   refine wpOp_mono (fun a' w' h3 => ?_) h2
   have hS' : S w' := by
    rcases h3.2.1 with h | h
    ·exact h
    ·rw [getD_set_ne true hjz, getD_set_ne true (Ne.symm hzne), hz] at h; cases h
   refine ⟨.inl hS', ih (listed.setIfInBounds j true) a' w' hfree' (ready_mono hr (Ne.symm hji)) h3.1 (by rw [getD_set_ne true hjz]; exact hz) hS' ?_⟩
   rw [Array.setIfInBounds_comm _ _ hji]
   exact h3.2.2

theorem wpAnyZ_take {i : Nat} {oi oz : Oper} {v : Value} {fuel : Nat} {listed : Array Bool} {a : Act} {w : World} (hi : ops[i]? = some oi) (hoz : ops[z]? = some oz)
  (hb : (oz.after.any (fun e => Region.binds md e && e.on == i) && (Region.noSelect ops && (Region.free md ops listed i && ((Region.ready md ops listed).contains i && (!(listed.getD z true) && !(z == i)))))) = true)
  (hQ : ∀ c a w, Q (.panic c) (a.put oi.dst v) w → Q (.panic c) a w) (hw : Region.wanted oi (yielded ops a.tmps) = true) (hS : S w) (hy : ∀ w, S w → (execOp a.eval oi).run P w = .ok (.value v) w)
  (h : wpAnyZ P md ops Q S z fuel (listed.setIfInBounds i true) (a.put oi.dst v) w) : wpAnyZ P md ops Q S z (fuel + 1) listed a w := by
 simp only [Bool.and_eq_true, Bool.not_eq_true', beq_eq_false_iff_ne] at hb
 obtain ⟨h1, h2, h3, h4, h5, h6⟩ := hb
 exact wpAnyZ_first hi hoz h1 (Region.noSelect_spec h2) hQ h6 fuel listed a w (Region.free_spec hi h3) (by simpa using h4) (Or.inl ⟨hw, hy⟩) h5 hS h
/-- Number z comes up; from here on nothing is held. -/
theorem wpAnyZ_step {o : Oper} {fuel : Nat} {listed : Array Bool} {a : Act} {w : World} (hr : Region.ready md ops listed = [z]) (hz : z < listed.size) (ho : ops[z]? = some o)
  (h : ∀ K' : Act → World → Prop, Shut (∀ a w, wpAnyH P md ops Q (fun _ => True) fuel (listed.setIfInBounds z true) a w → K' a w) → if Region.wanted o (yielded ops a.tmps) = true then Oper.wp P o a w K' Q else K' (a.put o.dst undef) w) : wpAnyZ P md ops Q S z (fuel + 1) listed a w := by
 refine ⟨fun h0 => (by rw [h0] at hr; cases hr), fun i hi => ?_⟩
 rw [hr] at hi
 obtain rfl := List.mem_singleton.1 hi
 have hz' : (listed.setIfInBounds i true).getD i true = true := by simp [hz]
 exact wpOp_step ho (fun K' hK => h K' (fun a w hH => hK a w ⟨.inr hz', wpAnyZ_of_H _ _ _ _ hz' hH⟩))
/-- One that may come up alone. -/
theorem wpAnyZ_one {i : Nat} {o : Oper} {fuel : Nat} {listed : Array Bool} {a : Act} {w : World} (hr : Region.ready md ops listed = [i]) (ho : ops[i]? = some o)
  (h : ∀ K' : Act → World → Prop, Shut (∀ a w, S w → (S w → wpAnyZ P md ops Q S z fuel (listed.setIfInBounds i true) a w) → K' a w) → if Region.wanted o (yielded ops a.tmps) = true then Oper.wp P o a w K' Q else K' (a.put o.dst undef) w) : wpAnyZ P md ops Q S z (fuel + 1) listed a w := by
 refine ⟨fun h0 => (by rw [h0] at hr; cases hr), fun j hj => ?_⟩
 rw [hr] at hj
 obtain rfl := List.mem_singleton.1 hj
 exact wpOp_step ho (fun K' hK => h K' (fun a w hS hW => hK a w ⟨.inl hS, hW hS⟩))
theorem wpAnyZ_listed {fuel : Nat} {listed : Array Bool} {a : Act} {w : World} (listed' : Array Bool) (h : listed = listed') (k : wpAnyZ P md ops Q S z fuel listed' a w) : wpAnyZ P md ops Q S z fuel listed a w := by
 rw [h]; exact k
/-- The beginnings. -/
theorem region_Z {id : Nat} {a : Act} {w : World} (z : Nat) (S : World → Prop) (hm : P.follows .mixedOrders = true)
  (h : wpAnyZ P .any ops Q S z ops.size (Array.replicate ops.size false) a w.drew) : (Code.region id ops true).wp P Q a w :=
 wp_region_any hm (wpAny_of_Z _ _ _ _ h)
theorem plain_Z {id : Nat} {a : Act} {w : World} (z : Nat) (S : World → Prop) (hm : P.follows .mixedOrders = true)
  (h : wpAnyZ P .any ops (Calm Q) S z ops.size (Array.replicate ops.size false) a w.drew) : (Code.region id ops true).wp P Q a w :=
 wpIn_wide.1 (wpIn_mono (n := 0) (wpIn_wide.2 (region_Z z S hm h)) Calm.imp)
theorem calm_Z {l n id : Nat} {a : Act} {w : World} (z : Nat) (S : World → Prop) (hm : P.follows .mixedOrders = true) (hd : ∀ (i : Nat) (o : Oper), ops[i]? = some o → ∀ c, o.op ≠ .defer c)
  (h : wpAnyZ P .any ops (Calm Q) S z ops.size (Array.replicate ops.size false) a w.drew) : (Code.region id ops true).wpIn (Fence.wide.inRound l) n P Q a w :=
 wpIn_mono (wpIn_region_any hm (any_round hd (fun ⟨_, _, h⟩ => h) _ _ _ _ (wpAny_of_Z _ _ _ _ h))) Calm.imp
end

end Go.Proofs.YtoaldbjcpfkcjaaGreat

namespace Go.Proofs.YtoaldbjcpfkcjaaGreat
open Go.RowKit Go.Lib

attribute [local go_sem] Oper.semAt_some

theorem Has.one2 {w0 w : World} {bs : List (Nat × List Value)} {A B : Nat} {a b : Value} (h : Has w0 ((A, [a]) :: (B, [b]) :: bs) w) : (w.cell? ⟨A, 0, none⟩ = some a ∧ w.cell? ⟨B, 0, none⟩ = some b) ∧ Has w0 ((A, [a]) :: (B, [b]) :: bs) w :=
 ⟨⟨h.fact (.head _) (i := 0) rfl, h.tail.fact (.head _) (i := 0) rfl⟩, h⟩

set_option linter.unusedSimpArgs false in
set_option maxRecDepth 100000 in
set_option maxHeartbeats 4000000 in
theorem ends_any (sel : Int × Int → Int) (ps : List (Int × Int)) (B C : Nat) (w : World) (hseq : ∀ n, LvSeq n 113 #[.pointer (some ⟨B, 0, none⟩), .pointer (some ⟨C, 0, none⟩)] (ps.length - 1) (fun _ k => .int .i64 (pk sel ps k)) (fun _ _ W => Kept w W) w) (hne : 1 ≤ ps.length) :
  Calls Tryz.prog 70 #[.func (.func 113) #[] #[.pointer (some ⟨B, 0, none⟩), .pointer (some ⟨C, 0, none⟩)]] w fun e w' => e = .returned (.tuple #[.int .i64 (lo sel ps ps.length), .int .i64 (hi sel ps ps.length)]) ∧ Below w.heap.size w w' := by
 have C0 := has2 (w := w) [.int .i64 9223372036854775807] [.int .i64 (-9223372036854775808)] 3 3
 have HS := Lib.hid hseq
 clear hseq
 refine (callsIn_wide (n := 5)).1 ?_
 refine callsIn_of_wp_marks Tryz.func70 rfl trivial ?_ rfl
 simp only [Tryz.ntmps70, List.size_toArray, List.length_cons, List.length_nil, Nat.reduceAdd, Nat.reduceSub, Array.replicate_succ, Array.replicate_zero, List.push_toArray, List.append_toArray, List.nil_append, List.cons_append]
 gi_wp2_with fail
 change Has w _ ((w.alloc (.cells #[.int .i64 9223372036854775807] 3)).alloc (.cells #[.int .i64 (-9223372036854775808)] 3)) at C0
 have hs1 : ((w.alloc (.cells #[.int .i64 9223372036854775807] 3)).alloc (.cells #[.int .i64 (-9223372036854775808)] 3)).heap.size = w.heap.size + 1 + 1 := by simp
 generalize (w.alloc (.cells #[.int .i64 9223372036854775807] 3)).alloc (.cells #[.int .i64 (-9223372036854775808)] 3) = w1 at *
 refine range_lv (K := ps.length - 1) (enc := fun _ k => .int .i64 (pk sel ps k)) (Lv := fun _ _ W => Kept w W) (w0 := w) rfl (enters_of Tryz.func113 (by kernel_rfl) rfl) (HS.out (5 - 1)) C0.low
  (fun k W => Has w [(w.heap.size, [.int .i64 (lo sel ps k)]), (w.heap.size + 1, [.int .i64 (hi sel ps k)])] W) (fun _ _ _ => False) (fun _ _ _ h g => h.later g) (fun k A l o o' h hl ho hc => h.putObj (by omega) ho hc) (fun _ _ _ _ _ _ h => h.elim) (fun _ _ _ _ _ _ h ho hc => h.putObj ho hc) C0
  (fun _ k => { tmps := #[.func (.func 113) #[] #[.pointer (some ⟨B, 0, none⟩), .pointer (some ⟨C, 0, none⟩)], undef, .pointer (some ⟨w.heap.size, 0, none⟩), .pointer (some ⟨w.heap.size + 1, 0, none⟩), .int .i64 (pk sel ps k), .func (.func 113) #[] #[.pointer (some ⟨B, 0, none⟩), .pointer (some ⟨C, 0, none⟩)], .int .i64 (pk sel ps k), undef, undef, undef, undef, undef, undef, undef, undef], defers := [] }) ?assign ?body ?done ?stop
 case assign =>
  intro l g k A T hT
  gi_wp2_with fail
  exact hT
 case stop =>
  intro D c k A _ _ h
  exact h.elim
 case body =>
  intro l g k A hI hL hk
  have hn1 := lo_next (sel := sel) (ps := ps) (k := k) (by omega)
  have hn2 := hi_next (sel := sel) (ps := ps) (k := k) (by omega)
  rw [hn1, hn2]
  clear hn1 hn2
  generalize lo sel ps k = L at *
  generalize hi sel ps k = H at *
  generalize pk sel ps k = X at *
  obtain ⟨L', hL'⟩ : ∃ v, min L X = v := ⟨_, rfl⟩
  obtain ⟨H', hH'⟩ : ∃ v, max H X = v := ⟨_, rfl⟩
  have hmin : (if X < L then X else L) = L' := by rw [← hL']; split <;> omega
  have hmax : (if H < X then X else H) = H' := by rw [← hH']; split <;> omega
  rw [hL', hH']
  clear hL' hH'
  gi_wp2_with fail
  have X0 := hI.drew
  refine calm_Z 7 (fun W => W.cell? ⟨w.heap.size + 1, 0, none⟩ = some (.int .i64 H)) (by kernel_rfl) (defers_none _ (by kernel_rfl)) ?_
  have hHeld := X0.tail.fact (.head _) (i := 0) rfl
  generalize hA0 : A.drew = A0 at *
  have HA0 := Lib.hid hA0
  clear hA0
  refine wpAnyZ_take (i := 1) (oi := ⟨some 8, .move (.tmp 4), 3, _, _, none⟩) (oz := ⟨none, .store 3 (.tmp 3) (.tmp 12), 0, _, _, none⟩) (v := .int .i64 X) rfl rfl (by kernel_rfl) (fun _ _ _ h => h) (by rfl) (by assumption) (fun wS hSw => ?_) ?_
  ·(try dsimp only at hSw); go_simp
  simp only [Act.put, pA, pB, pC]
  refine wpAnyZ_take (i := 3) (oi := ⟨some 10, .load 3 (.tmp 3), 3, _, _, none⟩) (oz := ⟨none, .store 3 (.tmp 3) (.tmp 12), 0, _, _, none⟩) (v := .int .i64 H) rfl rfl (by kernel_rfl) (fun _ _ _ h => h) (by rfl) (by assumption) (fun wS hSw => ?_) ?_
  ·(try dsimp only at hSw); go_simp
  simp only [Act.put, pA, pB, pC]
  refine wpAnyZ_take (i := 4) (oi := ⟨some 11, .move (.tmp 4), 3, _, _, none⟩) (oz := ⟨none, .store 3 (.tmp 3) (.tmp 12), 0, _, _, none⟩) (v := .int .i64 X) rfl rfl (by kernel_rfl) (fun _ _ _ h => h) (by rfl) (by assumption) (fun wS hSw => ?_) ?_
  ·(try dsimp only at hSw); go_simp
  simp only [Act.put, pA, pB, pC]
  refine wpAnyZ_take (i := 5) (oi := ⟨some 12, .call { callee := .builtin .max, args := #[.tmp 10, .tmp 11], argTypes := #[3, 3] }, 3, _, _, none⟩) (oz := ⟨none, .store 3 (.tmp 3) (.tmp 12), 0, _, _, none⟩) (v := .int .i64 H') rfl rfl (by kernel_rfl) (fun _ _ _ h => h) (by rfl) (by assumption) (fun wS hSw => ?_) ?_
  ·(try dsimp only at hSw); go_simp
  simp only [Act.put, pA, pB, pC]
  refine wpAnyZ_listed #[false, true, false, true, true, true, false, false] (by kernel_rfl) ?_
  refine wpAnyZ_one (i := 0) (o := ⟨some 7, .load 3 (.tmp 2), 3, _, _, none⟩) (by kernel_rfl) rfl (fun K hK => ?_)
  have k0 := X0.fact (.head _) (i := 0) rfl
  go_simp
  clear k0
  try clear hHeld
  refine hK.out _ _ (X0.tail.fact (.head _) (i := 0) rfl) (fun hHeld => ?_)
  clear hK K
  try simp only [pA, pB, pC]
  refine wpAnyZ_listed #[true, true, false, true, true, true, false, false] (by kernel_rfl) ?_
  refine wpAnyZ_one (i := 2) (o := ⟨some 9, .call { callee := .builtin .min, args := #[.tmp 7, .tmp 8], argTypes := #[3, 3] }, 3, _, _, none⟩) (by kernel_rfl) rfl (fun K hK => ?_)
  go_simp
  try clear hHeld
  refine hK.out _ _ (X0.tail.fact (.head _) (i := 0) rfl) (fun hHeld => ?_)
  clear hK K
  try simp only [pA, pB, pC]
  refine wpAnyZ_listed #[true, true, true, true, true, true, false, false] (by kernel_rfl) ?_
  refine wpAnyZ_one (i := 6) (o := ⟨none, .store 3 (.tmp 2) (.tmp 9), 0, _, _, none⟩) (by kernel_rfl) rfl (fun K hK => ?_)
  have k0 := X0.fact (.head _) (i := 0) rfl
  have f0 := X0.free (.head _) (i := 0) rfl
  go_simp
  have X1 : Has w [(w.heap.size, [.int .i64 L']), (w.heap.size + 1, [.int .i64 H])] (A0.setCell ⟨w.heap.size, 0, none⟩ (.int .i64 L')) := X0.set 0 (by simp) (.int .i64 L')
  have Y1 := (HA0.out ▸ hL.drew : Kept w A0).set (b := w.heap.size) (o := 0) (Nat.le_refl _) (.int .i64 L')
  have Z1 := (HA0.out ▸ keeps_drew w1.heap.size A : KeepsFrom w1.heap.size A A0).trans (keeps_cell (b := w.heap.size) (o := 0) A0 (.int .i64 L') (by omega))
  generalize A0.setCell ⟨w.heap.size, 0, none⟩ (.int .i64 L') = A1 at *
  clear k0 f0 X0
  try clear hHeld
  refine hK.out _ _ (X1.tail.fact (.head _) (i := 0) rfl) (fun hHeld => ?_)
  clear hK K
  try simp only [pA, pB, pC]
  refine wpAnyZ_listed #[true, true, true, true, true, true, true, false] (by kernel_rfl) ?_
  refine wpAnyZ_step (o := ⟨none, .store 3 (.tmp 3) (.tmp 12), 0, _, _, none⟩) (by kernel_rfl) (by decide) rfl (fun K hK => ?_)
  have k0 := X1.tail.fact (.head _) (i := 0) rfl
  have f0 := X1.tail.free (.head _) (i := 0) rfl
  go_simp
  have X2 : Has w [(w.heap.size, [.int .i64 L']), (w.heap.size + 1, [.int .i64 H'])] (A1.setCell ⟨w.heap.size + 1, 0, none⟩ (.int .i64 H')) := (X1.swap.set 0 (by simp) (.int .i64 H')).swap
  have Y2 := Y1.set (b := w.heap.size + 1) (o := 0) (by omega) (.int .i64 H')
  have Z2 := Z1.trans (keeps_cell (b := w.heap.size + 1) (o := 0) A1 (.int .i64 H') (by omega))
  generalize A1.setCell ⟨w.heap.size + 1, 0, none⟩ (.int .i64 H') = A2 at *
  clear k0 f0 X1
  try clear hHeld
  refine hK.out _ _ ?_
  clear hK K
  try simp only [pA, pB, pC]
  refine tlA #[true, true, true, true, true, true, true, true] ?_
  have hHeld := True.intro
  refine wpAnyH_done (by kernel_rfl) ?_ _
  exact ⟨Z2, X2, Y2⟩
 case done =>
  intro D A hD hI hK
  rw [Nat.sub_add_cancel hne] at hI
  generalize hL : lo sel ps ps.length = L at *
  generalize hH : hi sel ps ps.length = H at *
  have HL := Lib.hid hL
  have HH := Lib.hid hH
  clear hL hH
  gi_wp2_with fail
  refine wpIn_wide.2 ?_
  have X0 := hI.drew
  refine plain_Z 3 (fun W => W.cell? ⟨w.heap.size + 1, 0, none⟩ = some (.int .i64 H)) (by kernel_rfl) ?_
  have hHeld := X0.tail.fact (.head _) (i := 0) rfl
  have hK0 : A.drew.heap[D]? = some (.deferred (some [])) := hK
  generalize A.drew = A0 at *
  clear hK hI
  refine wpAnyZ_take (i := 1) (oi := ⟨some 14, .load 3 (.tmp 3), 3, _, _, none⟩) (oz := ⟨none, .store 3 (.tmp 3) (.tmp 14), 0, _, _, none⟩) (v := .int .i64 H) rfl rfl (by kernel_rfl) (fun _ _ _ h => h) (by rfl) (by assumption) (fun wS hSw => ?_) ?_
  ·(try dsimp only at hSw); go_simp
  simp only [Act.put, pA, pB, pC]
  refine wpAnyZ_listed #[false, true, false, false] (by kernel_rfl) ?_
  refine wpAnyZ_one (i := 0) (o := ⟨some 13, .load 3 (.tmp 2), 3, _, _, none⟩) (by kernel_rfl) rfl (fun K hK => ?_)
  have k0 := X0.fact (.head _) (i := 0) rfl
  go_simp
  clear k0
  try clear hHeld
  refine hK.out _ _ (X0.tail.fact (.head _) (i := 0) rfl) (fun hHeld => ?_)
  clear hK K
  try simp only [pA, pB, pC]
  refine wpAnyZ_listed #[true, true, false, false] (by kernel_rfl) ?_
  refine wpAnyZ_one (i := 2) (o := ⟨none, .store 3 (.tmp 2) (.tmp 13), 0, _, _, none⟩) (by kernel_rfl) rfl (fun K hK => ?_)
  have k0 := X0.fact (.head _) (i := 0) rfl
  have f0 := X0.free (.head _) (i := 0) rfl
  go_simp
  have X1 : Has w [(w.heap.size, [.int .i64 L]), (w.heap.size + 1, [.int .i64 H])] (A0.setCell ⟨w.heap.size, 0, none⟩ (.int .i64 L)) := X0.set 0 (by simp) (.int .i64 L)
  have hK1 := (Below.heap_setCell A0 ⟨w.heap.size, 0, none⟩ (.int .i64 L) D (by show D ≠ w.heap.size; omega)).trans hK0
  generalize A0.setCell ⟨w.heap.size, 0, none⟩ (.int .i64 L) = A1 at *
  clear k0 f0 X0 hK0
  try clear hHeld
  refine hK.out _ _ (X1.tail.fact (.head _) (i := 0) rfl) (fun hHeld => ?_)
  clear hK K
  try simp only [pA, pB, pC]
  refine wpAnyZ_listed #[true, true, true, false] (by kernel_rfl) ?_
  refine wpAnyZ_step (o := ⟨none, .store 3 (.tmp 3) (.tmp 14), 0, _, _, none⟩) (by kernel_rfl) (by decide) rfl (fun K hK => ?_)
  have k0 := X1.tail.fact (.head _) (i := 0) rfl
  have f0 := X1.tail.free (.head _) (i := 0) rfl
  go_simp
  have X2 : Has w [(w.heap.size, [.int .i64 L]), (w.heap.size + 1, [.int .i64 H])] (A1.setCell ⟨w.heap.size + 1, 0, none⟩ (.int .i64 H)) := (X1.swap.set 0 (by simp) (.int .i64 H)).swap
  have hK2 := (Below.heap_setCell A1 ⟨w.heap.size + 1, 0, none⟩ (.int .i64 H) D (by show D ≠ w.heap.size + 1; omega)).trans hK1
  generalize A1.setCell ⟨w.heap.size + 1, 0, none⟩ (.int .i64 H) = A2 at *
  clear k0 f0 X1 hK1
  try clear hHeld
  refine hK.out _ _ ?_
  clear hK K
  try simp only [pA, pB, pC]
  refine tlA #[true, true, true, true] ?_
  have hHeld := True.intro
  refine wpAnyH_done (by kernel_rfl) ?_ _
  refine Calm.normal ?_
  obtain ⟨k0, k1⟩ := X2.one2.1
  gi_wp2_with fail
  refine ⟨by simp, .inl ⟨_, _, rfl, run_takeDeferred hK2, ?_⟩⟩
  have X3 := X2.putObj (ob' := .deferred none) (by omega) hK2 rfl
  obtain ⟨d0, d1⟩ := X3.one2.1
  exact ⟨.tuple #[.int .i64 L, .int .i64 H], by simp [results, Tryz.results70, go_sem, d0, d1], by rw [HL.out, HH.out], X3.low⟩

end Go.Proofs.YtoaldbjcpfkcjaaGreat

namespace Go.Proofs.YtoaldbjcpfkcjaaGreat
open Go.RowKit Go.Lib

/-- The smallest rectangle with all points. -/
def bxo (ps : List (Int × Int)) : (Int × Int) × (Int × Int) := if ps.length = 0 then ((0, 0), (0, 0)) else ((lo Prod.fst ps ps.length, lo Prod.snd ps ps.length), (hi Prod.fst ps ps.length, hi Prod.snd ps ps.length))

theorem coords_has (a : Option Addr) (n c F : Nat) (w : World) : Calls Tryz.prog 71 #[.slice a n c, .func (.func F) #[] #[]] w fun e w' => e = .returned (.func (.func 113) #[] #[.pointer (some ⟨w.heap.size, 0, none⟩), .pointer (some ⟨w.heap.size + 1, 0, none⟩)]) ∧ Grows w w' ∧ w'.cell? ⟨w.heap.size, 0, none⟩ = some (.slice a n c) ∧ w'.cell? ⟨w.heap.size + 1, 0, none⟩ = some (.func (.func F) #[] #[]) := by
 refine (coords_any a n c F w).mono ?_
 rintro e w' ⟨rfl, rfl⟩
 have C := has2 (w := w) [.slice a n c] [.func (.func F) #[] #[]] 42 107
 exact ⟨rfl, C.low, C.one2.1.1, C.one2.1.2⟩

set_option maxRecDepth 100000 in
set_option maxHeartbeats 4000000 in
theorem box_any (v : Value) (ps : List (Int × Int)) (w : World) (hv : RowP w v ps) :
  Calls Tryz.prog 46 #[v] w fun e w' => e = .returned (.agg #[.int .i64 (bxo ps).1.1, .int .i64 (bxo ps).1.2, .int .i64 (bxo ps).2.1, .int .i64 (bxo ps).2.2]) ∧ Below w.heap.size w w' := by
 have C0 := has1 (w := w) [.int .i64 0, .int .i64 0, .int .i64 0, .int .i64 0] 81
 have hv0 := hv
 obtain ⟨a, cap, rfl, hc1, hc2, -⟩ := hv0
 by_cases hn : ps.length = 0
 ·rw [show bxo ps = ((0, 0), (0, 0)) by unfold bxo; rw [if_pos hn]]
  rw [hn] at hc1 ⊢
  clear hv
  go_enter Tryz.func46, Tryz.ntmps46
  go_upto_region 1 with fail
  change Has w _ (w.alloc (.cells #[.int .i64 0, .int .i64 0, .int .i64 0, .int .i64 0] 81)) at C0
  generalize w.alloc (.cells #[.int .i64 0, .int .i64 0, .int .i64 0, .int .i64 0] 81) = w1 at *
  have f0 := C0.free (.head _) (i := 0) rfl
  have f1 := C0.free (.head _) (i := 1) rfl
  have f2 := C0.free (.head _) (i := 2) rfl
  have f3 := C0.free (.head _) (i := 3) rfl
  have k0 := C0.fact (.head _) (i := 0) rfl
  have k1 := C0.fact (.head _) (i := 1) rfl
  have k2 := C0.fact (.head _) (i := 2) rfl
  have k3 := C0.fact (.head _) (i := 3) rfl
  go_wp2_with fail
  have C1 := (((C0.set 0 (by simp) (.int .i64 0)).set 1 (by simp) (.int .i64 0)).set 2 (by simp) (.int .i64 0)).set 3 (by simp) (.int .i64 0)
  change Has w [(w.heap.size, [.int .i64 0, .int .i64 0, .int .i64 0, .int .i64 0])] ((((w1.setCell ⟨w.heap.size, 0, none⟩ (.int .i64 0)).setCell ⟨w.heap.size, 1, none⟩ (.int .i64 0)).setCell ⟨w.heap.size, 2, none⟩ (.int .i64 0)).setCell ⟨w.heap.size, 3, none⟩ (.int .i64 0)) at C1
  generalize (((w1.setCell ⟨w.heap.size, 0, none⟩ (.int .i64 0)).setCell ⟨w.heap.size, 1, none⟩ (.int .i64 0)).setCell ⟨w.heap.size, 2, none⟩ (.int .i64 0)).setCell ⟨w.heap.size, 3, none⟩ (.int .i64 0) = w2 at *
  have d0 := C1.fact (.head _) (i := 0) rfl
  have d1 := C1.fact (.head _) (i := 1) rfl
  have d2 := C1.fact (.head _) (i := 2) rfl
  have d3 := C1.fact (.head _) (i := 3) rfl
  exact bodyPost_ret (v := .agg #[.int .i64 0, .int .i64 0, .int .i64 0, .int .i64 0]) (by simp [results, Tryz.results46, go_sem, d0, d1, d2, d3]) rfl ⟨rfl, C1.low⟩
 ·obtain ⟨x0, hx0⟩ : ∃ x, lo Prod.fst ps ps.length = x := ⟨_, rfl⟩
  obtain ⟨y0, hy0⟩ : ∃ x, lo Prod.snd ps ps.length = x := ⟨_, rfl⟩
  obtain ⟨x1, hx1⟩ : ∃ x, hi Prod.fst ps ps.length = x := ⟨_, rfl⟩
  obtain ⟨y1, hy1⟩ : ∃ x, hi Prod.snd ps ps.length = x := ⟨_, rfl⟩
  have hbx := Lib.hid (show bxo ps = ((x0, y0), (x1, y1)) by unfold bxo; rw [if_neg hn, hx0, hy0, hx1, hy1])
  have Hx0 := Lib.hid hx0
  have Hy0 := Lib.hid hy0
  have Hx1 := Lib.hid hx1
  have Hy1 := Lib.hid hy1
  clear hx0 hy0 hx1 hy1
  have hne : 1 ≤ ps.length := by omega
  have HV := Lib.hid hv
  clear hv
  go_enter Tryz.func46, Tryz.ntmps46
  go_upto_region 1 with fail
  change Has w _ (w.alloc (.cells #[.int .i64 0, .int .i64 0, .int .i64 0, .int .i64 0] 81)) at C0
  generalize w.alloc (.cells #[.int .i64 0, .int .i64 0, .int .i64 0, .int .i64 0] 81) = w1 at *
  go_wp2_with fail
  refine (coords_has _ _ _ 72 _).mono ?_
  rintro e w2 ⟨rfl, g2, hB, hC⟩
  have C2 := C0.later g2
  go_wp2_with fail
  have E := ends_any Prod.fst ps _ _ w2 (fun n => iter47_seq n ps _ _ _ w2 (HV.out.later C2.low) hB hC hne) hne
  rw [Hx0.out, Hx1.out] at E
  refine (Has.call C2 E).mono ?_
  clear E
  rintro e w3 ⟨rfl, C3⟩
  clear hB hC g2 C0 C2
  go_wp2_with fail
  refine (coords_has _ _ _ 73 _).mono ?_
  rintro e w4 ⟨rfl, g4, hB, hC⟩
  have C4 := C3.later g4
  go_wp2_with fail
  have E := ends_any Prod.snd ps _ _ w4 (fun n => iter48_seq n ps _ _ _ w4 (HV.out.later C4.low) hB hC hne) hne
  rw [Hy0.out, Hy1.out] at E
  refine (Has.call C4 E).mono ?_
  clear E
  rintro e w5 ⟨rfl, C5⟩
  clear hB hC g4 C3 C4
  have f0 := C5.free (.head _) (i := 0) rfl
  have f1 := C5.free (.head _) (i := 1) rfl
  have f2 := C5.free (.head _) (i := 2) rfl
  have f3 := C5.free (.head _) (i := 3) rfl
  have k0 := C5.fact (.head _) (i := 0) rfl
  have k1 := C5.fact (.head _) (i := 1) rfl
  have k2 := C5.fact (.head _) (i := 2) rfl
  have k3 := C5.fact (.head _) (i := 3) rfl
  go_wp2_with fail
  have C6 := (((C5.set 0 (by simp) (.int .i64 x0)).set 1 (by simp) (.int .i64 y0)).set 2 (by simp) (.int .i64 x1)).set 3 (by simp) (.int .i64 y1)
  change Has w [(w.heap.size, [.int .i64 x0, .int .i64 y0, .int .i64 x1, .int .i64 y1])] ((((w5.setCell ⟨w.heap.size, 0, none⟩ (.int .i64 x0)).setCell ⟨w.heap.size, 1, none⟩ (.int .i64 y0)).setCell ⟨w.heap.size, 2, none⟩ (.int .i64 x1)).setCell ⟨w.heap.size, 3, none⟩ (.int .i64 y1)) at C6
  generalize (((w5.setCell ⟨w.heap.size, 0, none⟩ (.int .i64 x0)).setCell ⟨w.heap.size, 1, none⟩ (.int .i64 y0)).setCell ⟨w.heap.size, 2, none⟩ (.int .i64 x1)).setCell ⟨w.heap.size, 3, none⟩ (.int .i64 y1) = w6 at *
  have d0 := C6.fact (.head _) (i := 0) rfl
  have d1 := C6.fact (.head _) (i := 1) rfl
  have d2 := C6.fact (.head _) (i := 2) rfl
  have d3 := C6.fact (.head _) (i := 3) rfl
  exact bodyPost_ret (v := .agg #[.int .i64 x0, .int .i64 y0, .int .i64 x1, .int .i64 y1]) (by simp [results, Tryz.results46, go_sem, d0, d1, d2, d3]) rfl ⟨by rw [hbx.out], C6.low⟩

end Go.Proofs.YtoaldbjcpfkcjaaGreat

namespace Go.Proofs.YtoaldbjcpfkcjaaGreat
open Go.RowKit Go.Lib

/-- The k-th point. -/
def pt (ps : List (Int × Int)) (k : Nat) : Int × Int := (ps[k]?).getD (0, 0)
/-- The k-th segment, as a value. -/
def sgv (ps : List (Int × Int)) (k : Nat) : Value := .agg #[.int .i64 (pt ps k).1, .int .i64 (pt ps k).2, .int .i64 (pt ps (k + 1)).1, .int .i64 (pt ps (k + 1)).2]
def sgenc (ps : List (Int × Int)) (k : Nat) : Array Value := #[.int .i64 k, sgv ps k]

theorem segments_any (a : Option Addr) (n c : Nat) (w : World) : Calls Tryz.prog 90 #[.slice a n c] w fun e w' => e = .returned (.func (.func 123) #[] #[.pointer (some ⟨w.heap.size, 0, none⟩)]) ∧ w.alloc (.cells #[.slice a n c] 42) = w' := by
 go_enter Tryz.func90, Tryz.ntmps90
 go_wp2_with fail
 go_ret
 exact ⟨rfl, rfl⟩

set_option maxRecDepth 100000 in
set_option maxHeartbeats 2000000 in
theorem seg_seq (n : Nat) (ps : List (Int × Int)) (v : Value) (B : Nat) (w0 : World) :
  Seq n 123 #[.pointer (some ⟨B, 0, none⟩)] (ps.length - 1) (sgenc ps) (fun W => W.cell? ⟨B, 0, none⟩ = some v ∧ RowP W v ps) w0 := by
 intro l J Jx W hW hJ hL hY hJx h0
 obtain ⟨a, cap, rfl, hc1, hc2, -⟩ := (hL _ _ h0).2
 have hB' := (hL _ _ h0).1
 rcases Nat.eq_zero_or_pos ps.length with hz | hp
 ·have HL := Lib.hid hL
  have HY := Lib.hid hY
  clear hL hY hJ hJx
  rw [hz] at hB' hc1 ⊢
  clear hz
  refine callsIn_of_wp Tryz.func123 rfl trivial ?_ rfl
  simp only [Tryz.ntmps123, List.size_toArray, List.length_cons, List.length_nil, Nat.reduceAdd, Nat.reduceSub, Array.replicate_succ, Array.replicate_zero, List.push_toArray, List.append_toArray, List.nil_append, List.cons_append]
  gi_wp2_with fail
  gi_loopw [7] (fun i wr => i = .int .i64 0 ∧ J 0 wr) (fun i _ => 0)
  case atStart => exact ⟨rfl, h0⟩
  case round =>
   obtain ⟨rfl, hJk⟩ := hrel
   gi_wp2_with fail
   go_end0
   exact ⟨⟨_, rfl⟩, .inl hJk⟩
 ·obtain ⟨K, hK⟩ : ∃ K, ps.length = K + 1 := ⟨ps.length - 1, by omega⟩
  rw [show ps.length - 1 = K by omega] at hY ⊢
  have HL := Lib.hid hL
  have HY := Lib.hid hY
  have HJ := Lib.hid hJ
  have HX := Lib.hid hJx
  clear hL hY hJ hJx hp
  rw [hK] at hB' hc1
  have HK := Lib.hid hK
  clear hK
  have hs : ((K : Int) + 1 - 1) = K := by omega
  refine callsIn_of_wp Tryz.func123 rfl trivial ?_ rfl
  simp only [Tryz.ntmps123, List.size_toArray, List.length_cons, List.length_nil, Nat.reduceAdd, Nat.reduceSub, Array.replicate_succ, Array.replicate_zero, List.push_toArray, List.append_toArray, List.nil_append, List.cons_append]
  gi_wp2_with fail
  gi_loopw [7] (fun i wr => ∃ k : Nat, k ≤ K ∧ i = .int .i64 k ∧ J k wr) (fun i _ => K - (RowKit.intOf i).toNat)
  case atStart => exact ⟨0, Nat.zero_le _, rfl, h0⟩
  case round =>
   clear h0 hB' hW
   obtain ⟨k, hk, rfl, hJk⟩ := hrel
   by_cases hlt : k < K
   ·obtain ⟨hb, hR⟩ := HL.out _ _ hJk
    obtain ⟨a', cap', he, -, -, hq⟩ := hR
    injection he with e1 e2 e3
    subst e1 e3
    clear e2
    obtain ⟨b, o, rfl, hqq⟩ := hq.resolve_left (by intro h; have := HK.out; rw [h] at this; simp at this)
    obtain ⟨p, hp⟩ : ∃ p, ps[k]? = some p := ⟨_, List.getElem?_eq_getElem (by rw [HK.out]; omega)⟩
    obtain ⟨q, hq2⟩ : ∃ p, ps[k + 1]? = some p := ⟨_, List.getElem?_eq_getElem (by rw [HK.out]; omega)⟩
    obtain ⟨x, y⟩ := p
    obtain ⟨x', y'⟩ := q
    obtain ⟨c0, c1⟩ := hqq k _ hp
    obtain ⟨c2, c3⟩ := hqq (k + 1) _ hq2
    simp only at c0 c1 c2 c3
    have hen := Lib.hid (show sgenc ps k = #[.int .i64 k, .agg #[.int .i64 x, .int .i64 y, .int .i64 x', .int .i64 y']] by unfold sgenc sgv pt; rw [hp, hq2]; rfl)
    clear hp hq2 hq hqq
    have ksum : IntKind.i64.wrap ((k : Int) + 1) = ((k + 1 : Nat) : Int) := by rw [IntWalk.i64_in _ (by omega)]; rfl
    rw [HK.out] at hb
    have hJ1 := HJ.out k wr wr.drew hJk ((Below.refl _ wr).drew)
    obtain ⟨fn, tmps, assign, body, hy, hR⟩ := HY.out k wr.drew hlt hJ1
    rw [hen.out] at hy
    have hR2 := Lib.hid (RoundIn.mono hR (R' := fun e A => ∃ r, e = .returned (.bool r) ∧ ((r = true ∧ J (k + 1) A) ∨ (r = false ∧ Jx k A))) (by
     rintro e A (⟨rfl, h⟩ | ⟨rfl, h⟩)
     ·exact ⟨true, rfl, .inl ⟨rfl, h⟩⟩
     ·exact ⟨false, rfl, .inr ⟨rfl, h⟩⟩))
    clear hR hJ1
    gi_wp2_with fail
    have b1 : (k : Int) < K + 1 := by omega
    have b2 : (0 : Int) ≤ k := by omega
    have b3 : (k : Int) + 1 < K + 1 := by omega
    have b4 : (0 : Int) ≤ (k : Int) + 1 := by omega
    have b5 : ((k : Int) + 1).toNat = k + 1 := by omega
    gi_region_with (refine ⟨fun h => by simp [Fence.wide] at h, hR2.out.mono ?_⟩; rintro e A ⟨r, rfl, hX⟩)
    all_goals
     rcases hX with ⟨rfl, hX⟩ | ⟨rfl, hX⟩
     ·gi_wp2_with fail
      go_roundw
      case rel => exact ⟨k + 1, by omega, by go_num, hX⟩
      case measure => simp [RowKit.intOf]; omega
     ·gi_wp2_with fail
      refine bodyPost_ret (results_none rfl _ _ _) rfl ?_
      exact ⟨⟨_, rfl⟩, .inr ⟨k, by omega, hX⟩⟩
   ·obtain rfl : k = K := by omega
    gi_wp2_with fail
    go_end0
    exact ⟨⟨_, rfl⟩, .inl hJk⟩

end Go.Proofs.YtoaldbjcpfkcjaaGreat
