/- The reference's reader: what number, Int and Text answer. -/
import Derived.Test.YtjiljkiedidmeaaDoorRNeg
import Derived.Test.YtjiljkiedidmeaaDoorRBadN
import Derived.Test.YtjiljkiedidmeaaDoorRBadM
import Derived.Test.YtjiljkiedidmeaaDoorRBadP
import Derived.Test.YtjiljkiedidmeaaDoorRBadQ
import Derived.Test.YtjiljkiedidmeaaDoorRBadZ
namespace Go.Proofs.YtjiljkiedidmeaaDoor
open Go.RowKit Go.Lib

theorem extract_mid (s : List UInt8) (k j : Nat) : ByteArray.extract ⟨s.toArray⟩ k (k + j) = ⟨((s.drop k).take j).toArray⟩ := by
  apply ByteArray.ext
  rw [ByteArray.data_extract]
  apply Array.ext'
  simp [List.take_drop]

theorem get_drop (s : List UInt8) (k i : Nat) : s[k + i]? = (s.drop k)[i]? := by rw [List.getElem?_drop]

/-- Where a numeral and its mark stand at the position. -/
theorem num_place {s a r : List UInt8} {k : Nat} {c : UInt8} (hd : s.drop k = a ++ c :: r) (ha : c ∉ a) :
    Seen s k a.length c ∧ s[k + a.length]? = some c ∧ ByteArray.extract ⟨s.toArray⟩ k (k + a.length) = ⟨a.toArray⟩ ∧ s.drop (k + a.length + 1) = r ∧ k + a.length + 1 ≤ s.length := by
  have h1 : s[k + a.length]? = some c := by rw [get_drop, hd]; simp
  refine ⟨?_, h1, ?_, ?_, ?_⟩
  · intro i hi
    refine ⟨a[i], ?_, ?_⟩
    · rw [get_drop, hd, List.getElem?_append_left hi, List.getElem?_eq_getElem hi]
    · intro e; exact ha (by rw [← e]; exact List.getElem_mem hi)
  · rw [extract_mid, hd]; simp
  · have : s.drop (k + a.length + 1) = (s.drop k).drop (a.length + 1) := by rw [List.drop_drop]; congr 1
    rw [this, hd]
    simp
  · have := (List.getElem?_eq_some_iff.1 h1).1
    omega

theorem number_yes (b k : Nat) (s r : List UInt8) (c : UInt8) (v : Int) (w : World) (hs : Short s) (h : RefAt w b s k false) (hc : 58 ≤ c.toNat) (hn : num c (s.drop k) = some (v, r)) :
    Calls Tryd.prog 45 #[.pointer (some ⟨b, 0, none⟩), .int .u8 (c.toNat : Int)] w fun e w' => ∃ k', k' ≤ s.length ∧ s.drop k' = r ∧ RefPost w b (.tuple #[.int .i64 v, .bool true]) s k' false e w' := by
  obtain ⟨hv, hd⟩ := num_is hn
  obtain ⟨p1, p2, p3, p4, p5⟩ := num_place hd (itoa_free v c hc)
  have hl := itoa_length hv
  by_cases h0 : 0 ≤ v
  · obtain ⟨m, rfl⟩ := Int.eq_ofNat_of_zero_le h0
    rw [itoa_nn h0, Int.toNat_natCast] at p1 p2 p3 p4 p5 hl
    refine (number_pos b k _ m s (decDigits m) c w hs h hv.2 hl p2 p1 p3 rfl).mono ?_
    intro e w' hp
    exact ⟨_, p5, p4, hp⟩
  · obtain ⟨m, hm⟩ : ∃ m : Nat, v = -(m : Int) := ⟨v.natAbs, by omega⟩
    subst hm
    rw [itoa_neg (by omega), Int.natAbs_neg, Int.natAbs_natCast] at p1 p2 p3 p4 p5 hl
    refine (number_neg b k _ m s (decDigits m) c w hs h (by omega) (by have := hv.1; omega) hl p2 p1 p3 rfl).mono ?_
    intro e w' hp
    exact ⟨_, p5, p4, hp⟩

theorem number_no (b k : Nat) (s : List UInt8) (c : UInt8) (w : World) (hs : Short s) (hk : k ≤ s.length) (h : RefAt w b s k false) (hc : 58 ≤ c.toNat) (hn : num c (s.drop k) = none) :
    Calls Tryd.prog 45 #[.pointer (some ⟨b, 0, none⟩), .int .u8 (c.toNat : Int)] w fun e w' => e = .returned (.tuple #[.int .i64 0, .bool false]) ∧ Grows w w' := by
  obtain ⟨j, hj, hkj, hS, h1 | ⟨h1, h2, d, h3, h4⟩ | h1⟩ := scan s k c hk
  · refine (number_end b k j s c w hs h hj h1 hS).mono ?_
    rintro e w' ⟨rfl, rfl⟩
    exact ⟨rfl, Below.refl _ _⟩
  · refine (number_far b k j s c d w hs h h2 h1 h3 h4 hS).mono ?_
    rintro e w' ⟨rfl, rfl⟩
    exact ⟨rfl, Below.refl _ _⟩
  · have hN : ∀ n, InI n → itoa n ≠ (s.drop k).take j := by
      intro n hi e
      have hlt := (List.getElem?_eq_some_iff.1 h1).1
      have hg := h1
      rw [get_drop] at hg
      have hsp : s.drop k = (s.drop k).take j ++ c :: (s.drop k).drop (j + 1) := by
        have hjl : j < (s.drop k).length := by simp; omega
        have hgj : (s.drop k)[j] = c := by
          rw [List.getElem?_eq_getElem hjl] at hg
          simpa using hg
        have hdj := List.drop_eq_getElem_cons hjl
        rw [hgj] at hdj
        rw [← hdj, List.take_append_drop]
      rw [← e] at hsp
      exact num_none hc hn n _ hi hsp
    have hex := extract_mid s k j
    have hDl : ((s.drop k).take j).length ≤ 21 := by rw [List.length_take]; omega
    generalize hL : (s.drop k).take j = L at *
    cases L with
    | nil =>
      have hj0 : j ≤ 20 := by
        rcases Nat.lt_or_ge 20 j with h2 | h2
        · have := congrArg List.length hL
          simp at this
          have := (List.getElem?_eq_some_iff.1 h1).1
          omega
        · exact h2
      exact number_bad0 b k j s [] c w hs h hj0 h1 hS hex (by simp) rfl hN
    | cons x D =>
      by_cases hx : x = 45
      · subst hx
        simp only [List.length_cons] at hDl
        by_cases hj2 : j ≤ 20
        · exact number_badn20 b k j s D c w hs h hj2 h1 hS hex (by omega) hN
        · exact number_badn21 b k j s D c w hs h hj (by omega) h1 hS hex (by omega) hN
      · by_cases hj2 : j ≤ 20
        · exact number_badp20 b k j s (x :: D) c w hs h hj2 h1 hS hex hDl (by simp) (fun _ => by simpa using hx) hN
        · exact number_badp21 b k j s (x :: D) c w hs h hj (by omega) h1 hS hex hDl (by simp) (fun _ => by simpa using hx) hN

end Go.Proofs.YtjiljkiedidmeaaDoor
