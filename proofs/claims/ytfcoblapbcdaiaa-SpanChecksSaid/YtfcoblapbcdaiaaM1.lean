/- Made histories: how many of their events are done, and which is in progress; fractions in lowest terms. -/
import Derived.Test.YtfcoblapbcdaiaaE10
import Derived.Test.YtfcoblapbcdaiaaGm
namespace Go.Proofs.Ytfcoblapbcdaiaa
open Go.RowKit Go.Lib
theorem sq_lt {a b : Int} (h0 : 0 ≤ a) (h : a < b) : a * a < b * b := by
  have h1 := Int.mul_le_mul (show a ≤ b by omega) (show a ≤ b by omega) h0 (by omega)
  have h2 : a * b < b * b := Int.mul_lt_mul_of_pos_right h (by omega)
  have h3 : a * a ≤ a * b := Int.mul_le_mul_of_nonneg_left (by omega) h0
  omega
theorem sq_le {a b : Int} (h0 : 0 ≤ a) (h : a ≤ b) : a * a ≤ b * b := Int.mul_le_mul h h h0 (by omega)
section
variable {es : List Ev}
theorem Asc.ok (h : Asc es) {i : Nat} (hi : i < es.length) : okA (atE es i) = true := (okA_iff _).2 ⟨by have := h.bd i hi; omega, (h.bd i hi).2⟩
theorem Asc.end_ (h : Asc es) {i : Nat} (hi : i < es.length) : endA (atE es i) = atE es i * atE es i := by unfold endA; rw [h.ok hi]; rfl
theorem Asc.end_pos (h : Asc es) {i : Nat} (hi : i < es.length) : 1 ≤ endA (atE es i) := by
  rw [h.end_ hi]
  exact sq_le (a := 1) (by omega) (h.bd i hi).1
theorem Asc.end_lt (h : Asc es) {i j : Nat} (hij : i < j) (hj : j < es.length) : endA (atE es i) < endA (atE es j) := by
  rw [h.end_ hj, h.end_ (by omega : i < es.length)]
  exact sq_lt (by have := h.bd i (by omega); omega) (h.up i j hij hj)
theorem Asc.end_le (h : Asc es) {i j : Nat} (hij : i ≤ j) (hj : j < es.length) : endA (atE es i) ≤ endA (atE es j) := by
  rcases Nat.lt_or_ge i j with g | g
  · exact Int.le_of_lt (h.end_lt g hj)
  · obtain rfl : i = j := by omega
    exact Int.le_refl _
theorem Asc.beg_lt (h : Asc es) {k : Nat} (hk : k < es.length) : begE es k < endA (atE es k) := by
  unfold begE
  split
  · have := h.end_pos hk; omega
  · exact h.end_lt (by omega) hk
theorem Asc.dn_of (h : Asc es) {k : Nat} {s : Int} (hk : k ≤ es.length) (hs : begE es k ≤ s) : Dn s es k := by
  intro i e hi he
  have hat := atE_of he
  rw [dnA_end, ← hat, h.ok (by omega), Bool.true_and, decide_eq_true_eq]
  unfold begE at hs
  rw [if_neg (by omega)] at hs
  exact Int.le_trans (h.end_le (show i ≤ k - 1 by omega) (by omega)) hs
/-- Between its begin and its end an event is the next one. -/
theorem Asc.done (h : Asc es) {k : Nat} {s : Int} (hk : k < es.length) (hs : begE es k ≤ s) (he : s < endA (atE es k)) : doneN s es = k := by
  refine doneN_stop (h.dn_of (by omega) hs) (List.getElem?_eq_getElem hk) ?_
  rw [← atE_of (List.getElem?_eq_getElem hk), dnA_end, h.ok hk, Bool.true_and, decide_eq_false_iff_not]
  omega
theorem Asc.done_all (h : Asc es) {s : Int} (hs : begE es es.length ≤ s) : doneN s es = es.length := doneN_all (h.dn_of (Nat.le_refl _) hs)
/-- At the begin of an event nothing is in progress. -/
theorem Asc.doing_beg (h : Asc es) {k : Nat} (hk : k ≤ es.length) : doI (begE es k) es = false := by
  unfold doI
  rcases Nat.lt_or_ge k es.length with g | g
  · rw [h.done g (Int.le_refl _) (h.beg_lt g)]; simp
  · obtain rfl : k = es.length := by omega
    rw [h.done_all (Int.le_refl _)]; simp
theorem Asc.doing_in (h : Asc es) {k : Nat} {s : Int} (hk : k < es.length) (hs : begE es k < s) (he : s < endA (atE es k)) : doI s es = true := by
  unfold doI
  rw [h.done hk (by omega) he, h.ok hk, decide_eq_true hk, decide_eq_true hs]; rfl
theorem begE_succ (es : List Ev) (k : Nat) : begE es (k + 1) = endA (atE es k) := rfl
theorem Asc.done_end (h : Asc es) {k : Nat} (hk : k < es.length) : doneN (endA (atE es k)) es = k + 1 := by
  rcases Nat.lt_or_ge (k + 1) es.length with g | g
  · exact h.done g (by rw [begE_succ]; exact Int.le_refl _) (h.end_lt (by omega) g)
  · obtain h1 : k + 1 = es.length := by omega
    rw [h1]
    exact h.done_all (by rw [← h1, begE_succ]; exact Int.le_refl _)
end
/-- A fraction between 0 and 1, in lowest terms. -/
theorem low_parts {N D : Int} (h : 1 ≤ N) (hD : N < D) (hb : D ≤ 1048576) :
    ∃ g n d : Int, lowN N D = n ∧ lowD N D = d ∧ 1 ≤ g ∧ N = g * n ∧ D = g * d ∧ 1 ≤ n ∧ n < d ∧ gcdOf n d = 1 ∧ d ≤ 1048576 := by
  obtain ⟨g, n, d, hg, hg1, hN, hDD, hd, hgcd⟩ := gcd_parts N D (by omega)
  obtain ⟨-, -, gg⟩ := gcdOf_bd N D ⟨by omega, by omega⟩
  obtain ⟨e1, e2, -⟩ := low_yes (n := N) (d := D) (by omega)
  rw [gg, ← hg] at e1 e2
  have hg0 : (g : Int) ≠ 0 := by omega
  have hgp : (0 : Int) < g := by omega
  refine ⟨g, n, d, ?_, ?_, by omega, hN, hDD, ?_, ?_, ?_, ?_⟩
  · rw [e1, hN, Int.mul_tdiv_cancel_left _ hg0]
  · rw [e2, hDD, Int.mul_ediv_cancel_left _ hg0]
  · rcases Int.lt_or_le 0 n with q | q
    · omega
    · have := Int.mul_nonneg (show 0 ≤ (g : Int) by omega) (show 0 ≤ -n by omega)
      rw [Int.mul_neg] at this; omega
  · exact Int.lt_of_mul_lt_mul_left (by rw [← hN, ← hDD]; exact hD) (by omega : (0 : Int) ≤ g)
  · exact gcdOf_eq (g := 1) hgcd (by decide)
  · have := Int.mul_le_mul (show (1 : Int) ≤ g by omega) (Int.le_refl d) (by omega) (by omega)
    omega
theorem low_cross {N D : Int} (h : 1 ≤ N) (hD : N < D) (hb : D ≤ 1048576) : lowN N D * D = lowD N D * N := by
  obtain ⟨g, n, d, e1, e2, -, hN, hDD, -⟩ := low_parts h hD hb
  rw [e1, e2]
  generalize lowN N D = x at *
  subst hN hDD
  rw [Int.mul_left_comm, Int.mul_left_comm d, Int.mul_comm n d]
/-- The fraction grows. -/
theorem low_grows {N D : Int} (h : 1 ≤ N) (hD : N + 1 < D) (hb : D ≤ 1048576) : cmpOf (lowN N D) (lowD N D) (lowN (N + 1) D) (lowD (N + 1) D) = -1 := by
  obtain ⟨g, n, d, e1, e2, hg, hN, hDD, hn, hnd, -, -⟩ := low_parts h (by omega) hb
  obtain ⟨g', n', d', e1', e2', hg', hN', hDD', hn', hnd', -, -⟩ := low_parts (N := N + 1) (D := D) (by omega) hD hb
  rw [e1, e2, e1', e2', ← cmpOf_yes (by omega) (by omega)]
  refine Int.sign_eq_neg_one_of_neg ?_
  have key : (g * g') * (n * d' - n' * d) = -D := by
    have x1 : (g * g') * (n * d') = (g * n) * (g' * d') := by rw [Int.mul_assoc, Int.mul_assoc, Int.mul_left_comm g' n d']
    have x2 : (g * g') * (n' * d) = (g' * n') * (g * d) := by rw [Int.mul_comm g g', Int.mul_assoc, Int.mul_assoc, Int.mul_left_comm g n' d]
    rw [Int.mul_sub, x1, x2, ← hN, ← hDD', ← hN', ← hDD, Int.add_mul]
    omega
  rcases Int.lt_or_le (n * d' - n' * d) 0 with q | q
  · exact q
  · have := Int.mul_nonneg (Int.mul_nonneg (show 0 ≤ g by omega) (show 0 ≤ g' by omega)) q
    omega
end Go.Proofs.Ytfcoblapbcdaiaa
