/- The chapter's examples, as plain facts. -/
import Derived.Test.YtjiljkiedidmeaaDoorText
namespace Go.Proofs.YtjiljkiedidmeaaDoor
open Go.Lib

theorem dig1 {u : Nat} (h : u < 10) : decDigits u = [UInt8.ofNat (48 + u)] := by rw [decDigits, dif_pos h]
theorem itoa_small {n : Nat} (h : n < 10) : itoa (n : Int) = [UInt8.ofNat (48 + n)] := by rw [itoa_nn (by omega), Int.toNat_natCast, dig1 h]
theorem itoa_0 : itoa 0 = [48] := itoa_small (n := 0) (by omega)
theorem itoa_1 : itoa 1 = [49] := itoa_small (n := 1) (by omega)
theorem itoa_2 : itoa 2 = [50] := itoa_small (n := 2) (by omega)
theorem itoa_3 : itoa 3 = [51] := itoa_small (n := 3) (by omega)
theorem itoa_m1 : itoa (-1) = [45, 49] := by rw [itoa_neg (by omega)]; show 45 :: decDigits 1 = _; rw [dig1 (by omega)]; rfl
theorem itoa_m2 : itoa (-2) = [45, 50] := by rw [itoa_neg (by omega)]; show 45 :: decDigits 2 = _; rw [dig1 (by omega)]; rfl
theorem itoa_250 : itoa 250 = [50, 53, 48] := by
  rw [itoa_nn (by omega)]
  show decDigits 250 = _
  rw [decDigits, dif_neg (by omega)]
  show decDigits 25 ++ _ = _
  rw [decDigits, dif_neg (by omega)]
  show (decDigits 2 ++ _) ++ _ = _
  rw [dig1 (by omega)]
  rfl
theorem ex1 : encI 0 = [48, 59] := by unfold encI; rw [itoa_0]; rfl
theorem ex2 : encI (-1) = [45, 49, 59] := by unfold encI; rw [itoa_m1]; rfl
theorem ex3 : encI 250 = [50, 53, 48, 59] := by unfold encI; rw [itoa_250]; rfl
theorem ex4 : encT [97, 98] = [50, 58, 97, 98] := by unfold encT; show itoa 2 ++ _ = _; rw [itoa_2]; rfl
theorem ex5 : encT [] = [48, 58] := by unfold encT; show itoa 0 ++ _ = _; rw [itoa_0]; rfl
theorem ex5a : encT [97] = [49, 58, 97] := by unfold encT; show itoa 1 ++ _ = _; rw [itoa_1]; rfl
theorem ex6 : encL encI [1, -2] = [91, 49, 59, 45, 50, 59, 93] := by unfold encL encI; simp [itoa_1, itoa_m2]
theorem ex7 : encL encI [] = [91, 93] := rfl
theorem ex8 : encL encT [[], [97]] = [91, 48, 58, 49, 58, 97, 93] := by unfold encL; simp [ex5, ex5a]
theorem ex9 : rdL rdI [91, 49, 59, 45, 50, 59, 93, 51, 59] = some ([1, -2], [51, 59]) := by
  have h := fitsIs.of [1, -2] [51, 59] (by intro v hv; simp at hv; rcases hv with rfl | rfl <;> exact ⟨by omega, by omega⟩)
  rw [ex6] at h
  exact h
theorem ex10 : rdI [51, 59] = some (3, []) := by
  have h := fitsI.of 3 [] ⟨by omega, by omega⟩
  unfold encI at h
  rw [itoa_3] at h
  exact h
theorem ex11 : rdI [] = none := by
  cases h : rdI [] with
  | none => rfl
  | some p => have := fitsI.less (v := p.1) (r := p.2) h; simp at this

/-- No decoder finds anything. -/
structure Dead (l : List UInt8) : Prop where
  i : rdI l = none
  t : rdT l = none
  is : rdL rdI l = none
  ts : rdL rdT l = none
theorem num_other {c : UInt8} {a r : List UInt8} (h : c ∉ a) (ha : ∀ v, atoiAll a = .ok v → itoa v ≠ a) : num c (a ++ c :: r) = none := by
  cases hn : num c (a ++ c :: r) with
  | none => rfl
  | some p =>
    exfalso
    unfold num at hn
    rw [cut_yes _ _ _ h] at hn
    simp only [if_true] at hn
    split at hn
    · rename_i v hv
      rw [if_neg (ha v hv)] at hn
      cases hn
    · cases hn
theorem num_without {c : UInt8} {l : List UInt8} (h : c ∉ l) : num c l = none := by
  unfold num
  rw [cut_no _ _ h]
  simp
theorem rdT_of_num {l : List UInt8} (h : num 58 l = none) : rdT l = none := by unfold rdT; rw [h]
theorem rdL_head {α : Type} {rd : List UInt8 → Option (α × List UInt8)} {l : List UInt8} (h : l.head? ≠ some 91) : rdL rd l = none := by unfold rdL; rw [if_neg h]
theorem dead_of {l : List UInt8} (h1 : num 59 l = none) (h2 : rdT l = none) (h3 : l.head? ≠ some 91) : Dead l := ⟨h1, h2, rdL_head h3, rdL_head h3⟩
theorem dead1 : Dead [48, 49, 59] :=
  dead_of (num_other (c := 59) (a := [48, 49]) (r := []) (by decide) (by intro v hv; have : v = 1 := by revert hv; simp [atoiAll, parseMag, parseUint10]; intro h; exact h.symm
                                                                         subst this; rw [itoa_1]; decide))
    (rdT_of_num (num_without (by decide))) (by decide)
theorem dead2 : Dead [43, 49, 59] :=
  dead_of (num_other (c := 59) (a := [43, 49]) (r := []) (by decide) (by intro v hv; have : v = 1 := by revert hv; simp [atoiAll, parseMag, parseUint10]; intro h; exact h.symm
                                                                         subst this; rw [itoa_1]; decide))
    (rdT_of_num (num_without (by decide))) (by decide)
theorem dead3 : Dead [45, 48, 59] :=
  dead_of (num_other (c := 59) (a := [45, 48]) (r := []) (by decide) (by intro v hv; have : v = 0 := by revert hv; simp [atoiAll, parseMag, parseUint10]; intro h; exact h.symm
                                                                         subst this; rw [itoa_0]; decide))
    (rdT_of_num (num_without (by decide))) (by decide)
theorem dead4 : Dead [49] := dead_of (num_without (by decide)) (rdT_of_num (num_without (by decide))) (by decide)
theorem dead5 : Dead [51, 58, 97, 98] := by
  refine dead_of (num_without (by decide)) ?_ (by decide)
  have h := num_of (c := 58) (v := 3) [97, 98] (by decide) ⟨by omega, by omega⟩
  rw [itoa_3] at h
  unfold rdT
  rw [show ([51, 58, 97, 98] : List UInt8) = [51] ++ 58 :: [97, 98] from rfl, h]
  simp
theorem dead_nil : Dead [] := dead_of (num_without (by simp)) (rdT_of_num (num_without (by simp))) (by simp)

end Go.Proofs.YtjiljkiedidmeaaDoor
