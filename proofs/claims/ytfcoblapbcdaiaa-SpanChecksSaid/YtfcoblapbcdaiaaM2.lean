/- Made histories are right; one with an At that is no scale stops there. -/
import Derived.Test.YtfcoblapbcdaiaaN2
namespace Go.Proofs.Ytfcoblapbcdaiaa
open Go.RowKit Go.Lib
/-- The first k events are right. -/
theorem chk_to {es : List Ev} {k : Nat} (hk : k ≤ es.length) (h1 : ∀ i, i < k → 1 ≤ atE es i ∧ atE es i ≤ 1024) (h2 : ∀ i j, i < j → j < k → atE es i < atE es j) : chkF none es = chkF (pvE es k) (es.drop k) := by
  induction k with
  | zero => rfl
  | succ k ih =>
    rw [ih (by omega) (fun i hi => h1 i (by omega)) (fun i j hij hj => h2 i j hij (by omega)), chk_step (by omega)]
    have hb := h1 k (by omega)
    rw [if_neg (by omega), if_neg]
    unfold pvE
    split
    · simp [badO]
    · have := h2 (k - 1) k (by omega) (by omega)
      simp only [badO, decide_eq_true_eq]
      omega
theorem Asc.check {es : List Ev} (h : Asc es) : chkE es = 0 := by
  unfold chkE
  rw [if_neg (by have := h.len; omega), chk_to (k := es.length) (Nat.le_refl _) h.bd (fun i j hij hj => h.up i j hij hj), chk_end]
section
variable {es : List Ev} {k : Nat} {e : Ev} {p : Int}
theorem stop_check (h : Asc es) (hk : k < es.length) (hp : okA p = false) : chkE (es.set k (e.put p)) = 3 := by
  have hl : (es.set k (e.put p)).length = es.length := List.length_set
  unfold chkE
  rw [if_neg (by have := h.len; omega), chk_to (k := k) (by omega) (fun i hi => by rw [atE_set_ne (by omega)]; exact h.bd i (by omega)) (fun i j hij hj => by rw [atE_set_ne (by omega), atE_set_ne (by omega)]; exact h.up i j hij (by omega)),
    chk_step (by omega), atE_set_eq hk, if_pos]
  have := (okA_no p).1 hp
  unfold Ev.put
  simp only
  omega
theorem stop_done (h : Asc es) (hk : k < es.length) (hp : okA p = false) {s : Int} (hs : 1048576 ≤ s) : doneN s (es.set k (e.put p)) = k := by
  have hl : (es.set k (e.put p)).length = es.length := List.length_set
  refine doneN_stop (k := k) (fun i x hi hx => ?_) (List.getElem?_eq_getElem (by omega)) ?_
  · have hx' := atE_of hx
    rw [atE_set_ne (by omega)] at hx'
    have ho := h.ok (i := i) (by omega)
    have := endA_bd (atE es i)
    rw [dnA_end, ← hx', ho, Bool.true_and, decide_eq_true_eq]
    omega
  · rw [dnA_end, ← atE_of (List.getElem?_eq_getElem (by omega)), atE_set_eq hk]
    show (okA p && _) = false
    rw [hp]; rfl
theorem stop_doing (h : Asc es) (hk : k < es.length) (hp : okA p = false) {s : Int} (hs : 1048576 ≤ s) : doI s (es.set k (e.put p)) = false := by
  unfold doI
  rw [stop_done h hk hp hs, atE_set_eq hk]
  show (_ && (okA p && _)) = false
  rw [hp]; simp
end
end Go.Proofs.Ytfcoblapbcdaiaa
