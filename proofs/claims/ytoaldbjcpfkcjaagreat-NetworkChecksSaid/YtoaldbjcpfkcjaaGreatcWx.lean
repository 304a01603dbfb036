/- Writing whole variables. -/
import Derived.Test.YtoaldbjcpfkcjaaGreatcWa
import Derived.Laws.IdiomCopy
namespace Go.Proofs.YtoaldbjcpfkcjaaGreat
open Go.RowKit Go.Lib

theorem Has.sets {w0 : World} {b : Nat} {bs : List (Nat × List Value)} : ∀ (vs pre old : List Value) (w : World), old.length = vs.length → Has w0 ((b, pre ++ old) :: bs) w → Has w0 ((b, pre ++ vs) :: bs) (w.setCells b pre.length vs)
 | [], pre, old, w, hl, h => by
  have : old = [] := List.eq_nil_of_length_eq_zero (by simpa using hl)
  subst this; exact h
 | v :: r, pre, [], w, hl, h => by simp at hl
 | v :: r, pre, o :: os, w, hl, h => by
  have h1 := h.set pre.length (by simp) v
  rw [show (pre ++ o :: os).set pre.length v = (pre ++ [v]) ++ os by simp] at h1
  have h2 := Has.sets r (pre ++ [v]) os _ (by simpa using hl) h1
  rw [show (pre ++ [v]) ++ r = pre ++ v :: r by simp, show (pre ++ [v]).length = pre.length + 1 by simp] at h2
  exact h2
theorem oth_sets (b : Nat) : ∀ (vs : List Value) (o : Nat) (w : World), Oth b w (w.setCells b o vs)
 | [], _, w => Oth.refl b w
 | v :: r, o, w => (Oth.set b o w v).then (oth_sets b r (o + 1) _)
/-- A whole variable of the call's own is written. -/
theorem run_store_has {w0 w : World} {b : Nat} {bs : List (Nat × List Value)} {old vs : List Value} {T : TypeId} (h : Has w0 ((b, old) :: bs) w) (hl : old.length = vs.length) (hi : (Tryz.prog.info? T).map (·.size) = some vs.length) (h1 : ∀ v ∈ vs, v.oneCell' = true) :
  ∃ w', (Instr.storeAt T (.pointer (some ⟨b, 0, none⟩)) (.agg vs.toArray)).run Tryz.prog w = .ok () w' ∧ Has w0 ((b, vs) :: bs) w' ∧ Oth b w w' := by
 have hs := run_storeCells_cells (P := Tryz.prog) b 0 vs 0 w (fun j hj => by
   have := h.fact (.head _) (i := j) (List.getElem?_eq_getElem (by omega : j < old.length))
   simp only [Nat.zero_add] at this ⊢
   rw [this]; rfl) (fun j hj => by
   have := h.free (.head _) (i := j) (List.getElem?_eq_getElem (by omega : j < old.length))
   simp only [Nat.zero_add] at this ⊢
   exact this) h1
 refine ⟨w.setCells b 0 vs, ?_, ?_, oth_sets b vs 0 w⟩
 ·obtain ⟨i, hi1, hi2⟩ := Option.map_eq_some_iff.1 hi
  simp [Instr.storeAt, storeVar, sizeOf, typeInfo, hi1, hi2, Value.cells, hs, go_sem]
 ·have := Has.sets vs [] old w hl h
  simpa using this
theorem upd_store {o : Oper} {a : Act} {w : World} {K : Act → World → Prop} {Q : Exit → Act → World → Prop} {p x : Operand} {T : TypeId} (ho : o.op = .store T p x) (hd : o.dst = none) {w0 : World} {b : Nat} {bs : List (Nat × List Value)} {old vs : List Value}
  (hp : a.eval p = .pointer (some ⟨b, 0, none⟩)) (hx : a.eval x = .agg vs.toArray) (h : Has w0 ((b, old) :: bs) w) (hl : old.length = vs.length) (hi : (Tryz.prog.info? T).map (·.size) = some vs.length) (h1 : ∀ v ∈ vs, v.oneCell' = true)
  (hK : ∀ w', Has w0 ((b, vs) :: bs) w' → Oth b w w' → K a w') : Oper.wp Tryz.prog o a w K Q := by
 obtain ⟨w', e1, e2, e3⟩ := run_store_has h hl hi h1
 have := hK w' e2 e3
 unfold Oper.wp execOp
 simp only [ho, Sem.run_bind, Sem.run_pure, Result.andThen_ok, hp, hx, e1, Oper.upon, hd]
 exact this
theorem wpList_store_has {ops : Array Oper} {rest : List Oper} {o : Oper} {a : Act} {w : World} {Q : Exit → Act → World → Prop} (hgd : o.guard = none) {p x : Operand} {T : TypeId} (ho : o.op = .store T p x) (hd : o.dst = none) {w0 : World} {b : Nat} {bs : List (Nat × List Value)} {old vs : List Value}
  (hp : a.eval p = .pointer (some ⟨b, 0, none⟩)) (hx : a.eval x = .agg vs.toArray) (h : Has w0 ((b, old) :: bs) w) (hl : old.length = vs.length) (hi : (Tryz.prog.info? T).map (·.size) = some vs.length) (h1 : ∀ v ∈ vs, v.oneCell' = true)
  (hK : ∀ w', Has w0 ((b, vs) :: bs) w' → Oth b w w' → wpList Tryz.prog ops Q rest a w') : wpList Tryz.prog ops Q (o :: rest) a w :=
 wpList_plain hgd fun _ hK' => upd_store ho hd hp hx h hl hi h1 fun w' h2 h3 => hK' _ _ (hK w' h2 h3)

end Go.Proofs.YtoaldbjcpfkcjaaGreat
