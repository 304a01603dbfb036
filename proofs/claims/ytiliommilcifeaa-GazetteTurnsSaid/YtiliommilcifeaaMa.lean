/- Strings as lists of bytes: folded, compared as names are; places by their weight, name and number; lists in order. -/
import Derived.Lib.Bytealg
import Derived.Sort.Defs
namespace Go.Proofs.Ytiliommilcifeaa
open Go.Lib

def sml (c : UInt8) : UInt8 := if 65 ≤ c.toNat ∧ c.toNat ≤ 90 then UInt8.ofNat (c.toNat + 32) else c
theorem sml_nat (c : UInt8) : (sml c).toNat = if 65 ≤ c.toNat ∧ c.toNat ≤ 90 then c.toNat + 32 else c.toNat := by
  unfold sml
  split
  · rw [UInt8.toNat_ofNat_of_lt' (by simp [UInt8.size]; omega)]
  · rfl
theorem sml_sml (c : UInt8) : sml (sml c) = sml c := by
  apply UInt8.toNat_inj.1
  rw [sml_nat (sml c), sml_nat c]
  by_cases h : 65 ≤ c.toNat ∧ c.toNat ≤ 90
  · rw [if_pos h, if_neg (by omega)]
  · rw [if_neg h, if_neg h]
def fold (s : List UInt8) : List UInt8 := s.map sml
theorem fold_length (s : List UInt8) : (fold s).length = s.length := by simp [fold]
theorem fold_fold (s : List UInt8) : fold (fold s) = fold s := by simp [fold, List.map_map, Function.comp_def, sml_sml]

theorem cb_refl : ∀ a, compareBytes a a = 0
  | [] => rfl
  | x :: xs => by simp [compareBytes, UInt8.lt_irrefl, cb_refl xs]
theorem cb_zero : ∀ {a b}, compareBytes a b = 0 → a = b
  | [], [], _ => rfl
  | [], _ :: _, h => by simp [compareBytes] at h
  | _ :: _, [], h => by simp [compareBytes] at h
  | x :: xs, y :: ys, h => by
    unfold compareBytes at h
    split at h
    · simp at h
    · split at h
      · simp at h
      · rename_i h1 h2
        have : x = y := by rw [UInt8.lt_iff_toNat_lt] at h1 h2; apply UInt8.toNat_inj.1; omega
        rw [this, cb_zero h]
theorem cb_neg : ∀ a b, compareBytes b a = - compareBytes a b
  | [], [] => rfl
  | [], _ :: _ => rfl
  | _ :: _, [] => rfl
  | x :: xs, y :: ys => by
    unfold compareBytes
    simp only [UInt8.lt_iff_toNat_lt]; rw [cb_neg xs ys]
    split
    · rw [if_neg (by omega)]
    · split <;> rfl
theorem cb_trans : ∀ {a b c}, compareBytes a b < 0 → compareBytes b c < 0 → compareBytes a c < 0
  | [], [], _, h, _ => by simp [compareBytes] at h
  | [], _ :: _, [], _, h => by simp [compareBytes] at h
  | [], _ :: _, _ :: _, _, _ => by simp [compareBytes]
  | _ :: _, [], _, h, _ => by simp [compareBytes] at h
  | _ :: _, _ :: _, [], _, h => by simp [compareBytes] at h
  | x :: xs, y :: ys, z :: zs, h, g => by
    unfold compareBytes at h g ⊢
    simp only [UInt8.lt_iff_toNat_lt] at h g ⊢
    by_cases h1 : x.toNat < y.toNat
    · by_cases g1 : y.toNat < z.toNat
      · rw [if_pos (by omega)]; omega
      · rw [if_neg g1] at g
        by_cases g2 : z.toNat < y.toNat
        · rw [if_pos g2] at g; omega
        · rw [if_pos (by omega)]; omega
    · rw [if_neg h1] at h
      by_cases h2 : y.toNat < x.toNat
      · rw [if_pos h2] at h; omega
      · rw [if_neg h2] at h
        by_cases g1 : y.toNat < z.toNat
        · rw [if_pos (by omega)]; omega
        · rw [if_neg g1] at g
          by_cases g2 : z.toNat < y.toNat
          · rw [if_pos g2] at g; omega
          · rw [if_neg g2] at g
            rw [if_neg (by omega), if_neg (by omega)]
            exact cb_trans h g
theorem cb_drop : ∀ {k : Nat} {a b : List UInt8}, k ≤ a.length → k ≤ b.length → a.take k = b.take k → compareBytes a b = compareBytes (a.drop k) (b.drop k)
  | 0, _, _, _, _, _ => rfl
  | k + 1, [], _, h, _, _ => by simp at h
  | k + 1, _ :: _, [], _, h, _ => by simp at h
  | k + 1, x :: xs, y :: ys, h1, h2, h => by
    simp only [List.take_succ_cons, List.cons.injEq] at h
    obtain ⟨rfl, h⟩ := h
    rw [compareBytes, if_neg (UInt8.lt_irrefl x), if_neg (UInt8.lt_irrefl x)]
    simp only [List.length_cons] at h1 h2
    exact cb_drop (by omega) (by omega) h
def cmpI (x y : Int) : Int := if x < y then -1 else if y < x then 1 else 0
theorem cmpI_zero {x y : Int} (h : cmpI x y = 0) : x = y := by
  unfold cmpI at h
  split at h
  · omega
  · split at h <;> omega
theorem cmpI_neg {x y : Int} : cmpI x y < 0 ↔ x < y := by
  unfold cmpI
  split
  · omega
  · split <;> omega
theorem cmpI_rev (x y : Int) : cmpI y x = - cmpI x y := by
  unfold cmpI
  split <;> split <;> first | rfl | omega | (split <;> first | rfl | omega)
theorem cb_at {k : Nat} {a b : List UInt8} {x y : UInt8} (h : a.take k = b.take k) (ha : a[k]? = some x) (hb : b[k]? = some y) (hne : x ≠ y) : compareBytes a b = cmpI x.toNat y.toNat := by
  obtain ⟨a1, a2⟩ := List.getElem?_eq_some_iff.1 ha
  obtain ⟨b1, b2⟩ := List.getElem?_eq_some_iff.1 hb
  rw [cb_drop (by omega) (by omega) h, List.drop_eq_getElem_cons a1, List.drop_eq_getElem_cons b1, a2, b2, compareBytes]
  simp only [UInt8.lt_iff_toNat_lt]
  have : x.toNat ≠ y.toNat := fun e => hne (UInt8.toNat_inj.1 e)
  unfold cmpI
  by_cases h1 : x.toNat < y.toNat
  · rw [if_pos h1, if_pos (by omega)]
  · rw [if_neg h1, if_pos (by omega), if_neg (by omega), if_pos (by omega)]
theorem cb_len {k : Nat} {a b : List UInt8} (h : a.take k = b.take k) (ha : k ≤ a.length) (hb : k ≤ b.length) (hk : k = a.length ∨ k = b.length) : compareBytes a b = cmpI a.length b.length := by
  rw [cb_drop ha hb h]
  unfold cmpI
  rcases hk with rfl | rfl
  · rw [List.drop_of_length_le (Nat.le_refl _)]
    by_cases hl : a.length < b.length
    · rw [List.drop_eq_getElem_cons hl, if_pos (by omega)]; rfl
    · rw [List.drop_of_length_le (by omega), if_neg (by omega), if_neg (by omega)]; rfl
  · rw [List.drop_of_length_le (l := b) (Nat.le_refl _)]
    by_cases hl : b.length < a.length
    · rw [List.drop_eq_getElem_cons hl, if_neg (by omega), if_pos (by omega)]; rfl
    · rw [List.drop_of_length_le (by omega), if_neg (by omega), if_neg (by omega)]; rfl

/-- The order of names: by what is folded, then as they are. -/
def cmpN (a b : List UInt8) : Int := if fold a = fold b then compareBytes a b else compareBytes (fold a) (fold b)
theorem cmpN_refl (a : List UInt8) : cmpN a a = 0 := by unfold cmpN; rw [if_pos rfl]; exact cb_refl a
theorem cmpN_zero {a b : List UInt8} (h : cmpN a b = 0) : a = b := by
  unfold cmpN at h
  split at h
  · exact cb_zero h
  · rename_i q; exact absurd (cb_zero h) q
theorem cmpN_neg (a b : List UInt8) : cmpN b a = - cmpN a b := by
  unfold cmpN
  by_cases h : fold a = fold b
  · rw [if_pos h, if_pos h.symm]; exact cb_neg a b
  · rw [if_neg h, if_neg (fun q => h q.symm)]; exact cb_neg _ _
theorem cmpN_trans {a b c : List UInt8} (h : cmpN a b < 0) (g : cmpN b c < 0) : cmpN a c < 0 := by
  unfold cmpN at h g ⊢
  by_cases h1 : fold a = fold b
  · rw [if_pos h1] at h
    by_cases g1 : fold b = fold c
    · rw [if_pos g1] at g
      rw [if_pos (h1.trans g1)]; exact cb_trans h g
    · rw [if_neg g1] at g
      rw [h1, if_neg g1]; exact g
  · rw [if_neg h1] at h
    by_cases g1 : fold b = fold c
    · rw [← g1, if_neg h1]; exact h
    · rw [if_neg g1] at g
      have h2 := cb_trans h g
      rw [if_neg (fun q => by rw [q, cb_refl] at h2; omega)]; exact h2
/-- A weight, a name, a number. -/
abbrev Key := Int × List UInt8 × Int
def cmpK (p q : Key) : Int := if p.1 = q.1 then (if cmpN p.2.1 q.2.1 = 0 then cmpI p.2.2 q.2.2 else cmpN p.2.1 q.2.1) else cmpI q.1 p.1
theorem cmpK_zero {p q : Key} (h : cmpK p q = 0) : p = q := by
  obtain ⟨a, b, c⟩ := p
  obtain ⟨a', b', c'⟩ := q
  unfold cmpK at h
  simp only at h
  split at h
  · rename_i e
    split at h
    · rename_i e2
      rw [e, cmpN_zero e2, cmpI_zero h]
    · rename_i e2; exact absurd h e2
  · rename_i e; exact absurd (cmpI_zero h).symm e
theorem cmpK_rev (p q : Key) : cmpK q p = - cmpK p q := by
  unfold cmpK
  by_cases h : p.1 = q.1
  · rw [if_pos h, if_pos h.symm]
    by_cases g : cmpN p.2.1 q.2.1 = 0
    · rw [if_pos g, if_pos (by rw [cmpN_neg, g]; rfl)]; exact cmpI_rev _ _
    · rw [if_neg g, if_neg (fun e => g (by rw [cmpN_neg, e]; rfl))]; exact cmpN_neg _ _
  · rw [if_neg h, if_neg (fun e => h e.symm)]; exact cmpI_rev _ _
theorem cmpK_refl (p : Key) : cmpK p p = 0 := by
  have := cmpK_rev p p; omega
theorem cmpK_trans {p q r : Key} (h : cmpK p q < 0) (g : cmpK q r < 0) : cmpK p r < 0 := by
  unfold cmpK at h g ⊢
  by_cases h1 : p.1 = q.1
  · rw [if_pos h1] at h
    by_cases g1 : q.1 = r.1
    · rw [if_pos g1] at g
      rw [if_pos (h1.trans g1)]
      by_cases h2 : cmpN p.2.1 q.2.1 = 0
      · rw [if_pos h2] at h
        rw [cmpN_zero h2]
        by_cases g2 : cmpN q.2.1 r.2.1 = 0
        · rw [if_pos g2] at g
          rw [if_pos g2]
          rw [cmpI_neg] at h g ⊢; omega
        · rw [if_neg g2] at g
          rw [if_neg g2]; exact g
      · rw [if_neg h2] at h
        by_cases g2 : cmpN q.2.1 r.2.1 = 0
        · rw [← cmpN_zero g2, if_neg h2]; exact h
        · rw [if_neg g2] at g
          have := cmpN_trans h g
          rw [if_neg (by omega)]; exact this
    · rw [if_neg g1] at g
      rw [h1, if_neg g1]; exact g
  · rw [if_neg h1] at h
    rw [cmpI_neg] at h
    by_cases g1 : q.1 = r.1
    · rw [← g1, if_neg h1, cmpI_neg]; exact h
    · rw [if_neg g1, cmpI_neg] at g
      rw [if_neg (by omega), cmpI_neg]; omega
def leK (p q : Key) : Bool := decide (cmpK p q ≤ 0)
theorem leK_refl (p : Key) : leK p p = true := by unfold leK; simp [cmpK_refl]
theorem leK_total (p q : Key) : leK p q = true ∨ leK q p = true := by
  unfold leK; rw [decide_eq_true_eq, decide_eq_true_eq, cmpK_rev p q]; omega
theorem leK_anti {p q : Key} (h : leK p q = true) (g : leK q p = true) : p = q := by
  unfold leK at h g; rw [decide_eq_true_eq] at h g
  rw [cmpK_rev p q] at g
  exact cmpK_zero (by omega)
theorem leK_trans {p q r : Key} (h : leK p q = true) (g : leK q r = true) : leK p r = true := by
  unfold leK at h g ⊢; rw [decide_eq_true_eq] at h g ⊢
  by_cases h0 : cmpK p q = 0
  · rw [cmpK_zero h0]; exact g
  · by_cases g0 : cmpK q r = 0
    · rw [← cmpK_zero g0]; exact h
    · have := cmpK_trans (p := p) (q := q) (r := r) (by omega) (by omega); omega
def sortK (l : List Key) : List Key := l.mergeSort leK
theorem sortK_sorted (l : List Key) : (sortK l).Pairwise (fun x y => leK x y = true) :=
  List.pairwise_mergeSort (le := leK) (fun _ _ _ h g => leK_trans h g) (fun a b => by rw [Bool.or_eq_true]; exact leK_total a b) l
theorem sortK_perm (l : List Key) : (sortK l).Perm l := List.mergeSort_perm _ _
theorem sortK_eq {l m : List Key} (h : m.Perm l) (hs : m.Pairwise (fun x y => leK x y = true)) : m = sortK l :=
  List.Perm.eq_of_pairwise (le := fun x y => leK x y = true) (fun _ _ _ _ h g => leK_anti h g) hs (sortK_sorted l) (h.trans (sortK_perm l).symm)
theorem sortK_of_perm {l m : List Key} (h : m.Perm l) : sortK m = sortK l := sortK_eq ((sortK_perm m).trans h) (sortK_sorted m)
theorem sortK_filter (f : Key → Bool) (l : List Key) : (sortK l).filter f = sortK (l.filter f) :=
  sortK_eq ((sortK_perm l).filter f) ((sortK_sorted l).filter f)
def sortI (l : List Int) : List Int := l.mergeSort fun x y => decide (x ≤ y)
theorem sortI_sorted (l : List Int) : (sortI l).Pairwise (fun x y => x ≤ y) := by
  have := List.pairwise_mergeSort (le := fun x y : Int => decide (x ≤ y)) (fun a b c h g => by simp only [decide_eq_true_eq] at *; omega) (fun a b => by simp only [Bool.or_eq_true, decide_eq_true_eq]; omega) l
  exact this.imp (fun h => by simpa using h)
theorem sortI_perm (l : List Int) : (sortI l).Perm l := List.mergeSort_perm _ _
theorem sortI_eq {l m : List Int} (h : m.Perm l) (hs : m.Pairwise (fun x y => x ≤ y)) : m = sortI l :=
  List.Perm.eq_of_pairwise (le := fun x y : Int => x ≤ y) (fun _ _ _ _ h g => by omega) hs (sortI_sorted l) (h.trans (sortI_perm l).symm)

/-- A place. -/
structure Pl where
  id : Int
  x : Int
  y : Int
  cls : List UInt8
  nm : List UInt8
  w : Int
  d : Int
instance : Inhabited Pl := ⟨⟨0, 0, 0, [], [], 0, 0⟩⟩
def Pl.key (p : Pl) : Key := (p.w, p.nm, p.id)
/-- What begins with a prefix, small and capital letters alike, and is not empty. -/
def beg (pre nm : List UInt8) : Bool := decide (nm ≠ []) && decide (pre.length ≤ nm.length) && decide ((fold nm).take pre.length = fold pre)
def foundK (ps : List Pl) (pre : List UInt8) : List Key := sortK ((ps.filter fun p => beg pre p.nm).map Pl.key)
def found (ps : List Pl) (pre : List UInt8) : List Int := (foundK ps pre).map fun k => k.2.2
end Go.Proofs.Ytiliommilcifeaa
