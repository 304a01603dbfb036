/- Lists that get one string more: where their trees and proofs differ. -/
import Derived.Test.YtmgkbkpfhpkbcaaTree
namespace Go.Proofs.Ytmgkbkpfhpkbcaa

theorem nb_ne (x : Nat) : nb x ≠ x := by unfold nb; split <;> omega
theorem lev_same (L : List (List UInt8)) (t : List UInt8) (h : L.length < 32) (k j : Nat) (hj : j < (lev L k).length) (hn : j ≠ L.length / 2 ^ k) : (lev (L ++ [t]) k)[j]?.getD [] = (lev L k)[j]?.getD [] := by
  induction k generalizing j with
  | zero =>
    rw [Nat.pow_zero, Nat.div_one] at hn
    have h1 := lowL_length L (by omega)
    have h2 := lowL_length (L ++ [t]) (by rw [List.length_append, List.length_singleton]; omega)
    have h3 : wd L.length ≤ wd (L ++ [t]).length := by
      rw [List.length_append, List.length_singleton]
      unfold wd; (repeat' split) <;> omega
    unfold lev at hj ⊢
    rcases Nat.lt_or_ge j L.length with hlt | hge
    · unfold lowL
      rw [List.getElem?_append_left (by simp; omega), List.getElem?_append_left (by simpa using hlt), List.getElem?_map, List.getElem?_map, List.getElem?_append_left hlt]
    · have e1 : (lowL L)[j]? = some rest := by
        unfold lowL
        rw [List.getElem?_append_right (by simpa using hge), List.length_map]
        rw [h1] at hj
        rw [List.getElem?_replicate, if_pos (by omega)]
      have e2 : (lowL (L ++ [t]))[j]? = some rest := by
        have hl : (L ++ [t]).length = L.length + 1 := by simp
        rw [h1] at hj
        unfold lowL
        rw [List.getElem?_append_right (by rw [List.length_map, hl]; omega), List.length_map, List.getElem?_replicate, if_pos (by omega)]
      rw [e1, e2]
  | succ k ih =>
    have hlen : (lev L (k + 1)).length = (lev L k).length / 2 := by rw [lev, upL_length]
    have hM := lev_length (L ++ [t]) (by rw [List.length_append, List.length_singleton]; omega) k
    have hL := lev_length L (by omega) k
    have h3 : wd L.length ≤ wd (L ++ [t]).length := by
      rw [List.length_append, List.length_singleton]
      unfold wd; (repeat' split) <;> omega
    have hle : (lev L k).length ≤ (lev (L ++ [t]) k).length := by rw [hM, hL]; exact Nat.div_le_div_right h3
    rw [hlen] at hj
    have hn' : j ≠ L.length / 2 ^ k / 2 := by rw [← div_succ]; exact hn
    rw [lev, lev, upL_at _ _ (by omega), upL_at _ _ hj]
    unfold pair
    rw [ih (2 * j) (by omega) (by omega), ih (2 * j + 1) (by omega) (by omega)]

/-- Whether the number is a power of two (up to 32). -/
def full (n : Nat) : Bool := decide (n = wd n)
theorem full_and : ∀ n, n < 21 → 1 ≤ n → ((n &&& (n - 1)) == 0) = full n := by decide
theorem lg_full : ∀ n, n < 21 → 1 ≤ n → lg (n + 1) = lg n + (if full n = true then 1 else 0) := by decide
theorem full_pow {n : Nat} (h : full n = true) : n = 2 ^ lg n := by
  rw [← wd_lg]; exact of_decide_eq_true h

/-- Whether the k-th elements of two proofs differ. -/
def dif (L : List (List UInt8)) (t : List UInt8) (i k : Nat) : Bool := (prv L i)[k]?.getD [] != (prv (L ++ [t]) i)[k]?.getD []
def cnt (L : List (List UInt8)) (t : List UInt8) (i : Nat) : Nat → Nat
  | 0 => 0
  | k + 1 => cnt L t i k + (if dif L t i k = true then 1 else 0)

theorem prv_at (L : List (List UInt8)) (i k : Nat) (hk : k < lg L.length) : (prv L i)[k]?.getD [] = (lev L k)[nb (i / 2 ^ k)]?.getD [] := by
  unfold prv
  rw [List.getElem?_map, List.getElem?_range hk]
  rfl
theorem lg_mono {n m : Nat} (h : n ≤ m) : lg n ≤ lg m := by unfold lg; (repeat' split) <;> omega
theorem dif_where (L : List (List UInt8)) (t : List UInt8) (h : L.length < 32) (i k : Nat) (hi : i < L.length) (hk : k < lg L.length) (hd : dif L t i k = true) : nb (i / 2 ^ k) = L.length / 2 ^ k := by
  rcases Nat.decEq (nb (i / 2 ^ k)) (L.length / 2 ^ k) with hn | hn
  · exfalso
    have hlt : i < 2 ^ lg L.length := by rw [← wd_lg]; have := le_wd (n := L.length) (by omega); omega
    have hpos : nb (i / 2 ^ k) < (lev L k).length := by
      rw [lev_pow L (by omega) k (by omega)]
      have := div_lt hlt (show k ≤ lg L.length by omega)
      obtain ⟨m, hm⟩ : ∃ m, lg L.length - k = m + 1 := ⟨lg L.length - k - 1, by omega⟩
      rw [hm] at this ⊢
      exact nb_pow this
    have e := lev_same L t h k _ hpos hn
    have hk2 : k < lg (L ++ [t]).length := Nat.lt_of_lt_of_le hk (lg_mono (by rw [List.length_append]; omega))
    unfold dif at hd
    rw [prv_at L i k hk, prv_at (L ++ [t]) i k hk2, e] at hd
    simp at hd
  · exact hn
theorem later_same {n i k k' : Nat} (h : nb (i / 2 ^ k) = n / 2 ^ k) (hlt : k < k') : i / 2 ^ k' = n / 2 ^ k' := by
  obtain ⟨d, rfl⟩ : ∃ d, k' = k + 1 + d := ⟨k' - (k + 1), by omega⟩
  have h1 : i / 2 ^ (k + 1) = n / 2 ^ (k + 1) := by rw [div_succ, div_succ, ← h, nb_div]
  rw [Nat.pow_add, ← Nat.div_div_eq_div_mul, ← Nat.div_div_eq_div_mul, h1]
/-- They differ once at most. -/
theorem dif_once (L : List (List UInt8)) (t : List UInt8) (h : L.length < 32) (i : Nat) (hi : i < L.length) {k k' : Nat} (hlt : k < k') (hk' : k' < lg L.length) (h1 : dif L t i k = true) (h2 : dif L t i k' = true) : False := by
  have e1 := dif_where L t h i k hi (by omega) h1
  have e2 := dif_where L t h i k' hi hk' h2
  have e3 := later_same e1 hlt
  rw [← e3] at e2
  exact nb_ne _ e2
theorem cnt_zero (L : List (List UInt8)) (t : List UInt8) (i K : Nat) (h : ∀ k, k < K → dif L t i k = false) : cnt L t i K = 0 := by
  induction K with
  | zero => rfl
  | succ K ih => rw [cnt, ih (fun k hk => h k (by omega)), h K (by omega)]; rfl
theorem cnt_le (L : List (List UInt8)) (t : List UInt8) (h : L.length < 32) (i : Nat) (hi : i < L.length) (K : Nat) (hK : K ≤ lg L.length) : cnt L t i K ≤ 1 := by
  induction K with
  | zero => exact Nat.zero_le _
  | succ K ih =>
    rw [cnt]
    cases hd : dif L t i K with
    | false => simpa using ih (by omega)
    | true =>
      rw [cnt_zero L t i K (fun k hk => by
        cases hk2 : dif L t i k with
        | false => rfl
        | true => exact (dif_once L t h i hi hk (by omega) hk2 hd).elim)]
      simp
theorem cnt_full (L : List (List UInt8)) (t : List UInt8) (h : L.length < 32) (i : Nat) (hi : i < L.length) (hf : full L.length = true) : cnt L t i (lg L.length) = 0 := by
  refine cnt_zero L t i _ fun k hk => ?_
  cases hd : dif L t i k with
  | false => rfl
  | true =>
    exfalso
    have e := dif_where L t h i k hi hk hd
    have hp := full_pow hf
    have hlt : i < 2 ^ lg L.length := by rw [← hp]; exact hi
    have h1 := div_lt hlt (show k ≤ lg L.length by omega)
    have h2 : L.length / 2 ^ k = 2 ^ (lg L.length - k) := by
      conv => lhs; rw [hp]
      rw [Nat.pow_div (by omega) (by decide)]
    rw [h2] at e
    obtain ⟨m, hm⟩ : ∃ m, lg L.length - k = m + 1 := ⟨lg L.length - k - 1, by omega⟩
    rw [hm] at h1 e
    have := nb_pow h1
    omega
end Go.Proofs.Ytmgkbkpfhpkbcaa
