/- Serialization and decoding as plain functions on bytes, and what they say of each other. -/
import Derived.Lib.ItoaNum
import Derived.Lib.AtoiAll
import Derived.Lib.IndexMore
namespace Go.Proofs.YtjiljkiedidmeaaDoor
open Go.Lib

/-- An int's range. -/
def InI (n : Int) : Prop := -9223372036854775808 ≤ n ∧ n ≤ 9223372036854775807

theorem ofNat_digit (d : Nat) (h : d < 10) : (UInt8.ofNat (48 + d)).toNat = 48 + d := by
  rw [UInt8.toNat_ofNat']; omega

theorem decDigits_mem (u : Nat) : ∀ b ∈ decDigits u, 48 ≤ b.toNat ∧ b.toNat ≤ 57 := by
  induction u using Nat.strongRecOn with
  | _ u ih =>
    intro b hb
    by_cases h : u < 10
    · rw [decDigits, dif_pos h] at hb
      simp only [List.mem_singleton] at hb
      subst hb
      rw [ofNat_digit u h]; omega
    · rw [decDigits, dif_neg h] at hb
      rcases List.mem_append.1 hb with h1 | h1
      · exact ih (u / 10) (by omega) b h1
      · simp only [List.mem_singleton] at h1
        subst h1
        rw [ofNat_digit (u % 10) (by omega)]; omega

theorem decDigits_ne (u : Nat) : decDigits u ≠ [] := by
  intro h
  have h1 := decDigits_length u
  have h2 := nDigits_pos u
  rw [h] at h1
  simp at h1
  omega

/-- What digits spell, behind acc. -/
def spell (acc : Nat) : List UInt8 → Nat
  | [] => acc
  | c :: r => spell (acc * 10 + (c.toNat - 48)) r

theorem spell_append (acc : Nat) (a b : List UInt8) : spell acc (a ++ b) = spell (spell acc a) b := by
  induction a generalizing acc with
  | nil => rfl
  | cons c a ih => exact ih _

theorem spell_le (acc : Nat) (l : List UInt8) : acc ≤ spell acc l := by
  induction l generalizing acc with
  | nil => exact Nat.le_refl _
  | cons c l ih => exact Nat.le_trans (by omega) (ih (acc * 10 + (c.toNat - 48)))

theorem spell_digits (u : Nat) : spell 0 (decDigits u) = u := by
  induction u using Nat.strongRecOn with
  | _ u ih =>
    by_cases h : u < 10
    · rw [decDigits, dif_pos h]
      show 0 * 10 + ((UInt8.ofNat (48 + u)).toNat - 48) = u
      rw [ofNat_digit u h]; omega
    · rw [decDigits, dif_neg h, spell_append, ih (u / 10) (by omega)]
      show u / 10 * 10 + ((UInt8.ofNat (48 + u % 10)).toNat - 48) = u
      rw [ofNat_digit (u % 10) (by omega)]; omega

theorem parse_spell (l : List UInt8) (acc : Nat) (hd : ∀ b ∈ l, 48 ≤ b.toNat ∧ b.toNat ≤ 57) (hs : spell acc l < 18446744073709551616) : parseUint10 acc l = .ok (spell acc l) := by
  induction l generalizing acc with
  | nil => rfl
  | cons c l ih =>
    have h1 := hd c (by simp)
    have h2 : acc * 10 + (c.toNat - 48) ≤ spell acc (c :: l) := spell_le _ l
    simp only [parseUint10]
    rw [if_pos h1, if_neg (by omega), if_neg (by omega)]
    exact ih _ (fun b hb => hd b (by simp [hb])) hs

theorem parseMag_digits (u : Nat) (h : u < 18446744073709551616) : parseMag (decDigits u) = .ok u := by
  unfold parseMag
  rw [if_neg (decDigits_ne u), parse_spell _ _ (decDigits_mem u) (by rw [spell_digits]; exact h), spell_digits]

theorem itoa_neg {n : Int} (h : n < 0) : itoa n = 45 :: decDigits n.natAbs := by unfold itoa; rw [if_pos h]
theorem itoa_nn {n : Int} (h : 0 ≤ n) : itoa n = decDigits n.toNat := by unfold itoa; rw [if_neg (by omega)]

theorem itoa_ne (n : Int) : itoa n ≠ [] := by
  by_cases h : n < 0
  · rw [itoa_neg h]; simp
  · rw [itoa_nn (by omega)]; exact decDigits_ne _

theorem itoa_mem (n : Int) : ∀ b ∈ itoa n, b.toNat = 45 ∨ 48 ≤ b.toNat ∧ b.toNat ≤ 57 := by
  intro b hb
  by_cases h : n < 0
  · rw [itoa_neg h] at hb
    rcases List.mem_cons.1 hb with rfl | h1
    · exact .inl rfl
    · exact .inr (decDigits_mem _ b h1)
  · rw [itoa_nn (by omega)] at hb
    exact .inr (decDigits_mem _ b hb)

theorem atoi_itoa {n : Int} (h : InI n) : atoiAll (itoa n) = .ok n := by
  obtain ⟨h1, h2⟩ := h
  by_cases hn : n < 0
  · rw [itoa_neg hn]
    have e : (45 : UInt8).toNat = 45 := rfl
    simp only [atoiAll, e, or_true, if_true, parseMag_digits _ (show n.natAbs < 18446744073709551616 by omega)]
    rw [if_neg (by simp), if_neg (by omega)]
    congr 1
    omega
  · rw [itoa_nn (by omega)]
    cases hd : decDigits n.toNat with
    | nil => exact absurd hd (decDigits_ne _)
    | cons c r =>
      have hc := decDigits_mem n.toNat c (by rw [hd]; simp)
      have hp := parseMag_digits n.toNat (by omega)
      rw [hd] at hp
      simp only [atoiAll]
      rw [if_neg (by omega), hp]
      simp only
      rw [if_neg (by omega), if_neg (by omega), if_neg (by omega)]
      congr 1
      omega

theorem atoi_in {l : List UInt8} {v : Int} (h : atoiAll l = .ok v) : InI v := by
  cases l with
  | nil => cases h
  | cons c r =>
    simp only [atoiAll] at h
    split at h
    · cases h
    · cases h
    · rename_i u _
      split at h
      · cases h
      · split at h
        · cases h
        · injection h with h
          by_cases hc : c.toNat = 45
          · rw [if_pos hc] at h; simp only [hc, true_and] at *; constructor <;> omega
          · rw [if_neg hc] at h; constructor <;> omega

theorem itoa_inj {a b : Int} (ha : InI a) (hb : InI b) (h : itoa a = itoa b) : a = b := by
  have h1 := atoi_itoa ha
  rw [h, atoi_itoa hb] at h1
  injection h1 with h1
  exact h1.symm

/-- How long a numeral is. -/
theorem itoa_length {n : Int} (h : InI n) : (itoa n).length ≤ 20 := by
  have key : ∀ u : Nat, u ≤ 9223372036854775808 → nDigits u ≤ 19 := by
    intro u hu
    rcases Nat.lt_or_ge 19 (nDigits u) with h1 | h1
    · exfalso
      have h3 : ∀ k u : Nat, u < 10 ^ (k + 1) → nDigits u ≤ k + 1 := by
        intro k
        induction k with
        | zero => intro u hu; rw [nDigits_small (by simpa using hu)]; exact Nat.le_refl _
        | succ k ih =>
          intro u hu
          by_cases hs : u < 10
          · rw [nDigits_small hs]; omega
          · rw [nDigits_big hs]
            have := ih (u / 10) (by rw [Nat.pow_succ] at hu; omega)
            omega
      have := h3 18 u (by omega)
      omega
    · exact h1
  obtain ⟨h1, h2⟩ := h
  by_cases hn : n < 0
  · rw [itoa_neg hn, List.length_cons, decDigits_length]
    have := key n.natAbs (by omega)
    omega
  · rw [itoa_nn (by omega), decDigits_length]
    have := key n.toNat (by omega)
    omega

theorem head_app {a b : List UInt8} (h : a ≠ []) : (a ++ b).head? = a.head? := by
  cases a with
  | nil => exact absurd rfl h
  | cons x a => rfl

/-! ### Cutting at a mark -/
theorem occ_one (l : List UInt8) (c : UInt8) (i : Nat) (hi : i < l.length) : occAt l [c] i = (l[i]? == some c) := by
  rw [occAt_iff_take l [c] i (by simp; omega)]
  rw [List.getElem?_eq_getElem hi]
  have e : (l.drop i).take [c].length = [l[i]] := by
    rw [List.drop_eq_getElem_cons hi]; rfl
  rw [e]
  simp

theorem cut_yes (a r : List UInt8) (c : UInt8) (h : c ∉ a) : cut (a ++ c :: r) [c] = (a, r, true) := by
  have hi : index (a ++ c :: r) [c] = (a.length : Int) := by
    refine index_first (by simp) ?_ ?_
    · rw [occ_one _ _ _ (by simp)]; simp
    · intro j hj
      rw [occ_one _ _ _ (by simp; omega)]
      rw [List.getElem?_append_left hj, List.getElem?_eq_getElem hj]
      simp only [beq_eq_false_iff_ne, ne_eq, Option.some.injEq]
      intro e
      exact h (by rw [← e]; exact List.getElem_mem hj)
  unfold cut
  rw [hi, if_pos (by omega), Int.toNat_natCast]
  simp

theorem cut_no (l : List UInt8) (c : UInt8) (h : c ∉ l) : cut l [c] = (l, [], false) := by
  have hi : index l [c] = -1 := by
    refine index_none ?_
    intro j hj
    by_cases hjl : j < l.length
    · rw [occ_one _ _ _ hjl, List.getElem?_eq_getElem hjl]
      simp only [beq_eq_false_iff_ne, ne_eq, Option.some.injEq]
      intro e
      exact h (by rw [← e]; exact List.getElem_mem hjl)
    · by_cases ho : occAt l [c] j = true
      · rcases occAt_room ho with h1 | h1
        · simp at h1; omega
        · cases h1
      · simpa using ho
  unfold cut
  rw [hi, if_neg (by omega)]

theorem parted (l : List UInt8) (c : UInt8) : c ∉ l ∨ ∃ a r, l = a ++ c :: r ∧ c ∉ a := by
  by_cases h : c ∈ l
  · right
    induction l with
    | nil => cases h
    | cons x l ih =>
      by_cases hx : c = x
      · subst hx; exact ⟨[], l, rfl, by simp⟩
      · have h1 : c ∈ l := by
          rcases List.mem_cons.1 h with h1 | h1
          · exact absurd h1 hx
          · exact h1
        obtain ⟨a, r, rfl, ha⟩ := ih h1
        exact ⟨x :: a, r, rfl, by simp [hx, ha]⟩
  · exact .inl h

/-! ### A number up to a mark -/
/-- The int of which l begins with the numeral and the mark, and what follows. -/
def num (c : UInt8) (l : List UInt8) : Option (Int × List UInt8) :=
  if (cut l [c]).2.2 = true then
    match atoiAll (cut l [c]).1 with
    | .ok v => if itoa v = (cut l [c]).1 then some (v, (cut l [c]).2.1) else none
    | _ => none
  else none

theorem itoa_free (v : Int) (c : UInt8) (hc : 58 ≤ c.toNat) : c ∉ itoa v := by
  intro h
  rcases itoa_mem v c h with h1 | h1 <;> omega

theorem num_of {c : UInt8} {v : Int} (r : List UInt8) (hc : 58 ≤ c.toNat) (hv : InI v) : num c (itoa v ++ c :: r) = some (v, r) := by
  unfold num
  rw [cut_yes _ _ _ (itoa_free v c hc)]
  simp [atoi_itoa hv]

theorem num_is {c : UInt8} {l r : List UInt8} {v : Int} (h : num c l = some (v, r)) : InI v ∧ l = itoa v ++ c :: r := by
  unfold num at h
  rcases parted l c with h1 | ⟨a, b, rfl, h1⟩
  · rw [cut_no _ _ h1] at h
    simp at h
  · rw [cut_yes _ _ _ h1] at h
    simp only [if_true] at h
    split at h
    · rename_i v' hv
      split at h
      · rename_i he
        simp only [Option.some.injEq, Prod.mk.injEq] at h
        obtain ⟨rfl, rfl⟩ := h
        exact ⟨atoi_in hv, by rw [he]⟩
      · cases h
    · cases h

theorem num_none {c : UInt8} {l : List UInt8} (hc : 58 ≤ c.toNat) (h : num c l = none) (v : Int) (r : List UInt8) (hv : InI v) : l ≠ itoa v ++ c :: r := by
  intro e
  rw [e, num_of r hc hv] at h
  cases h

/-! ### The four serializations -/
def encI (n : Int) : List UInt8 := itoa n ++ [59]
def encT (s : List UInt8) : List UInt8 := itoa (s.length : Int) ++ 58 :: s
def encL {α : Type} (enc : α → List UInt8) (l : List α) : List UInt8 := 91 :: (l.flatMap enc ++ [93])

/-- .. and their decoders: the value, and what follows. -/
def rdI (l : List UInt8) : Option (Int × List UInt8) := num 59 l
def rdT (l : List UInt8) : Option (List UInt8 × List UInt8) :=
  match num 58 l with
  | some (n, r) => if n < 0 ∨ (r.length : Int) < n then none else some (r.take n.toNat, r.drop n.toNat)
  | none => none
def elemsF {α : Type} (rd : List UInt8 → Option (α × List UInt8)) : Nat → List UInt8 → Option (List α × List UInt8)
  | 0, _ => none
  | k + 1, l => if l.head? = some 93 then some ([], l.tail) else
    match rd l with
    | none => none
    | some (v, r) => (elemsF rd k r).map fun p => (v :: p.1, p.2)
def elems {α : Type} (rd : List UInt8 → Option (α × List UInt8)) (l : List UInt8) : Option (List α × List UInt8) := elemsF rd (l.length + 1) l
def rdL {α : Type} (rd : List UInt8 → Option (α × List UInt8)) (l : List UInt8) : Option (List α × List UInt8) := if l.head? = some 91 then elems rd l.tail else none

/-- A decoder and its serialization (of the values that are in order) fit. -/
structure Fits {α : Type} (rd : List UInt8 → Option (α × List UInt8)) (enc : α → List UInt8) (ok : α → Prop) : Prop where
  of : ∀ v r, ok v → rd (enc v ++ r) = some (v, r)
  is : ∀ l v r, rd l = some (v, r) → ok v ∧ l = enc v ++ r
  ne : ∀ v, enc v ≠ []

theorem fitsI : Fits rdI encI InI := by
  refine ⟨?_, ?_, ?_⟩
  · intro v r hv
    unfold rdI encI
    rw [List.append_assoc]
    exact num_of r (by decide) hv
  · intro l v r h
    obtain ⟨h1, h2⟩ := num_is h
    exact ⟨h1, by rw [h2]; unfold encI; simp⟩
  · intro v h
    unfold encI at h
    simp at h

/-- A length that an int holds. -/
def InT (s : List UInt8) : Prop := (s.length : Int) ≤ 9223372036854775807
theorem InT.in {s : List UInt8} (h : InT s) : InI (s.length : Int) := by unfold InT at h; exact ⟨by omega, h⟩

theorem fitsT : Fits rdT encT InT := by
  refine ⟨?_, ?_, ?_⟩
  · intro s r hs
    unfold rdT encT
    rw [List.append_assoc, List.cons_append, num_of _ (by decide) hs.in]
    simp only [List.length_append]
    rw [if_neg (by omega), Int.toNat_natCast]
    simp
  · intro l s r h
    unfold rdT at h
    split at h
    · rename_i n b hn
      split at h
      · cases h
      · rename_i hk
        simp only [Option.some.injEq, Prod.mk.injEq] at h
        obtain ⟨rfl, rfl⟩ := h
        obtain ⟨h1, h2⟩ := num_is hn
        have hl : ((b.take n.toNat).length : Int) = n := by rw [List.length_take]; omega
        refine ⟨by unfold InT; rw [hl]; exact h1.2, ?_⟩
        unfold encT
        rw [hl, h2, List.append_assoc, List.cons_append, List.take_append_drop]
    · cases h
  · intro v h
    unfold encT at h
    simp at h

section
variable {α : Type} {rd : List UInt8 → Option (α × List UInt8)} {enc : α → List UInt8} {ok : α → Prop}

theorem Fits.less (F : Fits rd enc ok) {l : List UInt8} {v : α} {r : List UInt8} (h : rd l = some (v, r)) : r.length < l.length := by
  obtain ⟨-, rfl⟩ := F.is l v r h
  have := List.length_pos_iff.2 (F.ne v)
  rw [List.length_append]
  omega

theorem elemsF_fuel (F : Fits rd enc ok) : ∀ (k : Nat) (l : List UInt8), l.length + 1 ≤ k → elemsF rd k l = elems rd l := by
  intro k
  induction k using Nat.strongRecOn with
  | _ k ih =>
    intro l hk
    cases k with
    | zero => omega
    | succ k =>
      unfold elems
      simp only [elemsF]
      split
      · rfl
      · cases hr : rd l with
        | none => rfl
        | some p =>
          obtain ⟨v, r⟩ := p
          have h1 := F.less hr
          simp only
          rw [ih k (by omega) r (by omega)]
          cases hl : l.length with
          | zero => omega
          | succ m => rw [ih (m + 1) (by omega) r (by omega)]

theorem elems_close (rd : List UInt8 → Option (α × List UInt8)) (r : List UInt8) : elems rd (93 :: r) = some ([], r) := by
  unfold elems; simp [elemsF]
theorem elems_bad (rd : List UInt8 → Option (α × List UInt8)) {l : List UInt8} (h : l.head? ≠ some 93) (hr : rd l = none) : elems rd l = none := by
  unfold elems; simp only [elemsF]; rw [if_neg h, hr]
theorem elems_step (F : Fits rd enc ok) {l r : List UInt8} {v : α} (h : l.head? ≠ some 93) (hr : rd l = some (v, r)) : elems rd l = (elems rd r).map fun p => (v :: p.1, p.2) := by
  have h1 := F.less hr
  conv => lhs; unfold elems
  simp only [elemsF]
  rw [if_neg h, hr]
  simp only
  rw [elemsF_fuel F _ _ (by omega)]

theorem elems_of (F : Fits rd enc ok) (hh : ∀ v, (enc v).head? ≠ some 93) (vs : List α) (hv : ∀ v ∈ vs, ok v) (r : List UInt8) : elems rd (vs.flatMap enc ++ 93 :: r) = some (vs, r) := by
  induction vs with
  | nil => exact elems_close rd r
  | cons v vs ih =>
    have e : (v :: vs).flatMap enc ++ 93 :: r = enc v ++ (vs.flatMap enc ++ 93 :: r) := by simp
    have hd : (enc v ++ (vs.flatMap enc ++ 93 :: r)).head? ≠ some 93 := by
      rw [head_app (F.ne v)]
      exact hh v
    rw [e, elems_step F hd (F.of v _ (hv v (by simp))), ih (fun x hx => hv x (by simp [hx]))]
    rfl

theorem elems_is (F : Fits rd enc ok) : ∀ (n : Nat) (l : List UInt8), l.length ≤ n → ∀ (vs : List α) (r : List UInt8), elems rd l = some (vs, r) → (∀ v ∈ vs, ok v) ∧ l = vs.flatMap enc ++ 93 :: r := by
  intro n
  induction n with
  | zero =>
    intro l hl vs r h
    have : l = [] := List.eq_nil_of_length_eq_zero (by omega)
    subst this
    cases hr : rd ([] : List UInt8) with
    | none => rw [elems_bad rd (by simp) hr] at h; cases h
    | some p =>
      obtain ⟨v, q⟩ := p
      have := F.less hr
      simp at this
  | succ n ih =>
    intro l hl vs r h
    by_cases hd : l.head? = some 93
    · cases l with
      | nil => simp at hd
      | cons c l =>
        simp only [List.head?_cons, Option.some.injEq] at hd
        subst hd
        rw [elems_close] at h
        simp only [Option.some.injEq, Prod.mk.injEq] at h
        obtain ⟨rfl, rfl⟩ := h
        exact ⟨by simp, by simp⟩
    · cases hr : rd l with
      | none => rw [elems_bad rd hd hr] at h; cases h
      | some p =>
        obtain ⟨v, q⟩ := p
        have h1 := F.less hr
        rw [elems_step F hd hr] at h
        obtain ⟨⟨ws, s⟩, h2, h3⟩ := Option.map_eq_some_iff.1 h
        simp only [Prod.mk.injEq] at h3
        obtain ⟨rfl, rfl⟩ := h3
        obtain ⟨k1, k2⟩ := ih q (by omega) ws s h2
        obtain ⟨o1, o2⟩ := F.is l v q hr
        refine ⟨?_, ?_⟩
        · intro x hx
          rcases List.mem_cons.1 hx with rfl | hx
          · exact o1
          · exact k1 x hx
        · rw [o2, k2]; simp

theorem fitsL (F : Fits rd enc ok) (hh : ∀ v, (enc v).head? ≠ some 93) : Fits (rdL rd) (encL enc) (fun l => ∀ v ∈ l, ok v) := by
  refine ⟨?_, ?_, ?_⟩
  · intro vs r hv
    unfold rdL encL
    simp only [List.cons_append, List.head?_cons, if_true, List.tail_cons, List.append_assoc]
    exact elems_of F hh vs hv r
  · intro l vs r h
    unfold rdL at h
    split at h
    · rename_i hd
      cases l with
      | nil => simp at hd
      | cons c l =>
        simp only [List.head?_cons, Option.some.injEq] at hd
        subst hd
        obtain ⟨h1, h2⟩ := elems_is F l.length l (Nat.le_refl _) vs r h
        refine ⟨h1, ?_⟩
        unfold encL
        rw [h2]
        simp
    · cases h
  · intro v h
    unfold encL at h
    cases h

/-- Equal beginnings are of equal values. -/
theorem Fits.prefix_eq (F : Fits rd enc ok) {a b : α} (ha : ok a) (hb : ok b) {r s : List UInt8} (h : enc a ++ r = enc b ++ s) : a = b ∧ r = s := by
  have h1 := F.of a r ha
  rw [h, F.of b s hb] at h1
  simp only [Option.some.injEq, Prod.mk.injEq] at h1
  exact ⟨h1.1.symm, h1.2.symm⟩

/-- What is cut off a serialization is none. -/
theorem Fits.cut (F : Fits rd enc ok) {v : α} (hv : ok v) (k : Nat) (hk : k < (enc v).length) : rd ((enc v).take k) = none := by
  cases hr : rd ((enc v).take k) with
  | none => rfl
  | some p =>
    exfalso
    obtain ⟨u, r⟩ := p
    obtain ⟨h1, h2⟩ := F.is _ _ _ hr
    have h3 : enc v ++ [] = enc u ++ (r ++ (enc v).drop k) := by
      rw [← List.append_assoc, ← h2, List.take_append_drop, List.append_nil]
    obtain ⟨-, h4⟩ := F.prefix_eq hv h1 h3
    have h5 : (enc v).drop k = [] := by
      have := congrArg List.length h4
      simp at this
      exact List.eq_nil_of_length_eq_zero (by simp; omega)
    have := congrArg List.length h5
    simp at this
    omega
end

theorem encI_head (v : Int) : (encI v).head? ≠ some 93 := by
  unfold encI
  rw [head_app (itoa_ne v)]
  intro h
  have := itoa_mem v 93 (List.mem_of_mem_head? h)
  have e : (93 : UInt8).toNat = 93 := rfl
  rw [e] at this
  omega
theorem encT_head (s : List UInt8) : (encT s).head? ≠ some 93 := by
  unfold encT
  rw [head_app (itoa_ne _)]
  intro h
  have := itoa_mem _ 93 (List.mem_of_mem_head? h)
  have e : (93 : UInt8).toNat = 93 := rfl
  rw [e] at this
  omega
theorem fitsIs : Fits (rdL rdI) (encL encI) (fun l => ∀ v ∈ l, InI v) := fitsL fitsI encI_head
theorem fitsTs : Fits (rdL rdT) (encL encT) (fun l => ∀ v ∈ l, InT v) := fitsL fitsT encT_head

end Go.Proofs.YtjiljkiedidmeaaDoor
