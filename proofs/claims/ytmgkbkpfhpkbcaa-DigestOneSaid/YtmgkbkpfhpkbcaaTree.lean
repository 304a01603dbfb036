/- Trees of digests and proofs as plain functions on lists, and what they say of each other. -/
import Derived.Test.YtmgkbkpfhpkbcaaMath
namespace Go.Proofs.Ytmgkbkpfhpkbcaa

/-! ### The way up -/
/-- What a digest at an index and its neighbours form. -/
def upOf (d : List UInt8) (i : Nat) : List (List UInt8) → List UInt8
  | [] => d
  | s :: r => upOf (dig (4 :: (if i % 2 = 0 then d ++ s else s ++ d))) (i / 2) r
theorem upOf_snoc (d : List UInt8) (i : Nat) (p : List (List UInt8)) (s : List UInt8) :
    upOf d i (p ++ [s]) = dig (4 :: (if i / 2 ^ p.length % 2 = 0 then upOf d i p ++ s else s ++ upOf d i p)) := by
  induction p generalizing d i with
  | nil => simp [upOf]
  | cons x p ih =>
    rw [List.cons_append, upOf, ih, upOf, List.length_cons, Nat.pow_succ, Nat.mul_comm, ← Nat.div_div_eq_div_mul]
theorem upOf_length {d : List UInt8} (i : Nat) (p : List (List UInt8)) (h : d.length = 8) : (upOf d i p).length = 8 := by
  induction p generalizing d i with
  | nil => exact h
  | cons x p ih => exact ih _ (dig_length _)

/-- Whether a proof is accepted. -/
def ver (root leaf : List UInt8) (i : Int) (p : List (List UInt8)) : Bool :=
  decide (0 ≤ i ∧ p.length ≤ 40 ∧ i < 2 ^ p.length ∧ (∀ s ∈ p, s.length = 8) ∧ upOf (dig (3 :: leaf)) i.toNat p = root)

/-! ### The tree -/
/-- The least power of two that is not less, and which power it is, up to 32. -/
def wd (n : Nat) : Nat := if n ≤ 1 then 1 else if n ≤ 2 then 2 else if n ≤ 4 then 4 else if n ≤ 8 then 8 else if n ≤ 16 then 16 else 32
def lg (n : Nat) : Nat := if n ≤ 1 then 0 else if n ≤ 2 then 1 else if n ≤ 4 then 2 else if n ≤ 8 then 3 else if n ≤ 16 then 4 else 5
theorem wd_lg (n : Nat) : wd n = 2 ^ lg n := by unfold wd lg; (repeat' split) <;> rfl
theorem le_wd {n : Nat} (h : n ≤ 32) : n ≤ wd n := by unfold wd; (repeat' split) <;> omega
theorem lg_le (n : Nat) : lg n ≤ 5 := by unfold lg; (repeat' split) <;> omega
theorem wd_le (n : Nat) : wd n ≤ 32 := by unfold wd; (repeat' split) <;> omega
theorem wd_pos (n : Nat) : 1 ≤ wd n := by unfold wd; (repeat' split) <;> omega

def leaf (s : List UInt8) : List UInt8 := dig (3 :: s)
def rest : List UInt8 := dig [5]
def lowL (l : List (List UInt8)) : List (List UInt8) := l.map leaf ++ List.replicate (wd l.length - l.length) rest
def pair (ds : List (List UInt8)) (k : Nat) : List UInt8 := dig (4 :: (ds[2 * k]?.getD [] ++ ds[2 * k + 1]?.getD []))
def upL (ds : List (List UInt8)) : List (List UInt8) := (List.range (ds.length / 2)).map (pair ds)
def lev (l : List (List UInt8)) : Nat → List (List UInt8)
  | 0 => lowL l
  | k + 1 => upL (lev l k)
def nb (i : Nat) : Nat := if i % 2 = 0 then i + 1 else i - 1
def rootL (l : List (List UInt8)) : List UInt8 := (lev l (lg l.length))[0]?.getD []
def prv (l : List (List UInt8)) (i : Nat) : List (List UInt8) := (List.range (lg l.length)).map fun k => (lev l k)[nb (i / 2 ^ k)]?.getD []

theorem upL_length (ds : List (List UInt8)) : (upL ds).length = ds.length / 2 := by simp [upL]
theorem lowL_length (l : List (List UInt8)) (h : l.length ≤ 32) : (lowL l).length = wd l.length := by
  have := le_wd h
  unfold lowL
  rw [List.length_append, List.length_map, List.length_replicate]
  omega
theorem lev_length (l : List (List UInt8)) (h : l.length ≤ 32) (k : Nat) : (lev l k).length = wd l.length / 2 ^ k := by
  induction k with
  | zero => rw [lev, lowL_length l h]; simp
  | succ k ih => rw [lev, upL_length, ih, Nat.pow_succ, Nat.div_div_eq_div_mul]
theorem lev_pow (l : List (List UInt8)) (h : l.length ≤ 32) (k : Nat) (hk : k ≤ lg l.length) : (lev l k).length = 2 ^ (lg l.length - k) := by
  rw [lev_length l h, wd_lg, Nat.pow_div hk (by decide)]
theorem all8_low (l : List (List UInt8)) : ∀ d ∈ lowL l, d.length = 8 := by
  intro d hd
  rcases List.mem_append.1 hd with h | h
  · obtain ⟨s, _, rfl⟩ := List.mem_map.1 h
    exact dig_length _
  · rw [(List.mem_replicate.1 h).2]; exact dig_length _
theorem all8_up (ds : List (List UInt8)) : ∀ d ∈ upL ds, d.length = 8 := by
  intro d hd
  obtain ⟨k, _, rfl⟩ := List.mem_map.1 hd
  exact dig_length _
theorem all8 (l : List (List UInt8)) (k : Nat) : ∀ d ∈ lev l k, d.length = 8 := by
  cases k with
  | zero => exact all8_low l
  | succ k => exact all8_up _
theorem lev_at {l : List (List UInt8)} {k j : Nat} (h : j < (lev l k).length) : ((lev l k)[j]?.getD []).length = 8 := by
  rw [List.getElem?_eq_getElem h]
  exact all8 l k _ (List.getElem_mem h)
theorem upL_at (ds : List (List UInt8)) (j : Nat) (h : j < ds.length / 2) : (upL ds)[j]?.getD [] = pair ds j := by
  unfold upL
  rw [List.getElem?_map, List.getElem?_range h]
  rfl
theorem nb_pow {i m : Nat} (h : i < 2 ^ (m + 1)) : nb i < 2 ^ (m + 1) := by
  rw [Nat.pow_succ] at *
  unfold nb
  split <;> omega
theorem nb_div (i : Nat) : nb i / 2 = i / 2 := by unfold nb; split <;> omega
theorem div_lt {i k m : Nat} (h : i < 2 ^ m) (hk : k ≤ m) : i / 2 ^ k < 2 ^ (m - k) := by
  rw [Nat.div_lt_iff_lt_mul (Nat.pow_pos (by decide)), ← Nat.pow_add]
  rwa [Nat.sub_add_cancel hk]
theorem div_succ (i k : Nat) : i / 2 ^ (k + 1) = i / 2 ^ k / 2 := by rw [Nat.pow_succ, Nat.div_div_eq_div_mul]

/-- **The neighbours lead to the root.** -/
theorem up_lev (l : List (List UInt8)) (hl : l.length ≤ 32) (i : Nat) (hi : i < 2 ^ lg l.length) (k : Nat) (hk : k ≤ lg l.length) :
    upOf ((lev l 0)[i]?.getD []) i ((List.range k).map fun k => (lev l k)[nb (i / 2 ^ k)]?.getD []) = (lev l k)[i / 2 ^ k]?.getD [] := by
  induction k with
  | zero => simp [upOf]
  | succ k ih =>
    have hlen := lev_pow l hl k (by omega)
    have hI := div_lt hi (show k ≤ lg l.length by omega)
    obtain ⟨m, hm⟩ : ∃ m, lg l.length - k = m + 1 := ⟨lg l.length - k - 1, by omega⟩
    rw [hm, Nat.pow_succ] at hlen hI
    rw [List.range_succ, List.map_append, List.map_cons, List.map_nil, upOf_snoc, ih (by omega), List.length_map, List.length_range, div_succ, lev, upL_at _ _ (by omega)]
    unfold pair
    generalize i / 2 ^ k = I at *
    unfold nb
    split
    · rename_i h
      rw [show 2 * (I / 2) = I by omega]
    · rename_i h
      rw [show 2 * (I / 2) = I - 1 by omega, show I - 1 + 1 = I by omega]
theorem low_at (l : List (List UInt8)) (i : Nat) (hi : i < l.length) : (lev l 0)[i]?.getD [] = leaf l[i] := by
  unfold lev lowL
  rw [List.getElem?_append_left (by simpa using hi), List.getElem?_map, List.getElem?_eq_getElem hi]
  rfl
theorem prv_length (l : List (List UInt8)) (i : Nat) : (prv l i).length = lg l.length := by simp [prv]
theorem prv_all8 (l : List (List UInt8)) (hl : l.length ≤ 32) (i : Nat) (hi : i < l.length) : ∀ s ∈ prv l i, s.length = 8 := by
  intro s hs
  obtain ⟨k, hk, rfl⟩ := List.mem_map.1 hs
  rw [List.mem_range] at hk
  refine lev_at ?_
  have hlt : i < 2 ^ lg l.length := by rw [← wd_lg]; have := le_wd hl; omega
  rw [lev_pow l hl k (by omega)]
  have := div_lt hlt (show k ≤ lg l.length by omega)
  obtain ⟨m, hm⟩ : ∃ m, lg l.length - k = m + 1 := ⟨lg l.length - k - 1, by omega⟩
  rw [hm] at this ⊢
  exact nb_pow this
theorem proves (l : List (List UInt8)) (hl : l.length ≤ 32) (i : Nat) (hi : i < l.length) : ver (rootL l) l[i] (i : Int) (prv l i) = true := by
  have hlt : i < 2 ^ lg l.length := by rw [← wd_lg]; have := le_wd hl; omega
  unfold ver
  refine decide_eq_true ⟨by omega, ?_, ?_, prv_all8 l hl i hi, ?_⟩
  · rw [prv_length]; have := lg_le l.length; omega
  · rw [prv_length]; exact_mod_cast hlt
  · rw [Int.toNat_natCast]
    have := up_lev l hl i hlt (lg l.length) (Nat.le_refl _)
    rw [low_at l i hi] at this
    refine this.trans ?_
    rw [Nat.div_eq_of_lt hlt]
    rfl

end Go.Proofs.Ytmgkbkpfhpkbcaa
