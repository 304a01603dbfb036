/- From a way all ways of its group are reached, and no others. -/
import Derived.Test.YtoaldbjcpfkcjaaGreatqFi
namespace Go.Proofs.YtoaldbjcpfkcjaaGreat
open Go.RowKit Go.Lib

section
variable {P : Program} {ops : Array Oper} {Q : Exit → Act → World → Prop} {md : Region.Mode} {S : World → Prop} {z : Nat}
theorem wpAnyZ_skip {i : Nat} {oi oz : Oper} {fuel : Nat} {listed : Array Bool} {a : Act} {w : World} (hi : ops[i]? = some oi) (hoz : ops[z]? = some oz)
    (hb : (oz.after.any (fun e => Region.binds md e && e.on == i) && (Region.noSelect ops && (Region.free md ops listed i && ((Region.ready md ops listed).contains i && (!(listed.getD z true) && !(z == i)))))) = true)
    (hQ : ∀ c a w, Q (.panic c) (a.put oi.dst undef) w → Q (.panic c) a w) (hw : Region.wanted oi (yielded ops a.tmps) = false) (hS : S w)
    (h : wpAnyZ P md ops Q S z fuel (listed.setIfInBounds i true) (a.put oi.dst undef) w) : wpAnyZ P md ops Q S z (fuel + 1) listed a w := by
  simp only [Bool.and_eq_true, Bool.not_eq_true', beq_eq_false_iff_ne] at hb
  obtain ⟨h1, h2, h3, h4, h5, h6⟩ := hb
  exact wpAnyZ_first hi hoz h1 (Region.noSelect_spec h2) hQ h6 fuel listed a w (Region.free_spec hi h3) (by simpa using h4) (Or.inr ⟨hw, rfl⟩) h5 hS h
end
/-- What is true in one list is true in the other one. -/
def LeB (S T : List Bool) : Prop := ∀ k : Nat, S[k]? = some true → T[k]? = some true
theorem count_le : ∀ {S T : List Bool}, S.length = T.length → LeB S T → S.count true ≤ T.count true
  | [], _, _, _ => by simp
  | _ :: _, [], h, _ => by simp at h
  | a :: S, b :: T, h, g => by
    have ih := count_le (S := S) (T := T) (by simpa using h) fun k hk => by have := g (k + 1) (by simpa using hk); simpa using this
    have h0 := g 0
    simp only [List.getElem?_cons_zero, Option.some.injEq] at h0
    rw [List.count_cons, List.count_cons]
    cases a
    · simp; omega
    · rw [h0 rfl]; simp; exact ih
theorem count_lt : ∀ {S T : List Bool}, S.length = T.length → LeB S T → ∀ (k : Nat), S[k]? = some false → T[k]? = some true → S.count true + 1 ≤ T.count true
  | [], _, _, _, k, hk, _ => by simp at hk
  | _ :: _, [], h, _, _, _, _ => by simp at h
  | a :: S, b :: T, h, g, 0, hk, hk' => by
    have ih := count_le (S := S) (T := T) (by simpa using h) fun k hk => by have := g (k + 1) (by simpa using hk); simpa using this
    simp only [List.getElem?_cons_zero, Option.some.injEq] at hk hk'
    subst hk hk'
    rw [List.count_cons, List.count_cons]
    simp; exact ih
  | a :: S, b :: T, h, g, k + 1, hk, hk' => by
    have ih := count_lt (S := S) (T := T) (by simpa using h) (fun k hk => by have := g (k + 1) (by simpa using hk); simpa using this) k (by simpa using hk) (by simpa using hk')
    have h0 := g 0
    simp only [List.getElem?_cons_zero, Option.some.injEq] at h0
    rw [List.count_cons, List.count_cons]
    cases a
    · simp; omega
    · rw [h0 rfl]; simp; exact ih
def ClosedB (J : Nat → Nat → Bool) (S : List Bool) : Prop := ∀ i k : Nat, k < S.length → S[i]? = some true → J i k = true → S[k]? = some true
/-- In the midst of a round: S0 is how it began. -/
structure Rnd (J : Nat → Nat → Bool) (f n : Nat) (S0 S : List Bool) (i k : Nat) : Prop where
  len0 : S0.length = n
  len : S.length = n
  sound : ∀ j : Nat, S[j]? = some true → Conn J f j
  le : LeB S0 S
  did : ∀ i' k', i' < n → k' < n → (i' < i ∨ (i' = i ∧ k' < k)) → S0[i']? = some true → J i' k' = true → S[k']? = some true
  shut : ClosedB J S0 → S = S0
theorem Rnd.start {J : Nat → Nat → Bool} {f n : Nat} {S : List Bool} (hl : S.length = n) (hs : ∀ j : Nat, S[j]? = some true → Conn J f j) : Rnd J f n S S 0 0 :=
  ⟨hl, hl, hs, fun _ h => h, fun i' k' _ _ h => by omega, fun _ => rfl⟩
theorem Rnd.row {J : Nat → Nat → Bool} {f n : Nat} {S0 S : List Bool} {i : Nat} (h : Rnd J f n S0 S i n) : Rnd J f n S0 S (i + 1) 0 :=
  ⟨h.len0, h.len, h.sound, h.le, fun i' k' hi hk ho => h.did i' k' hi hk (by omega), h.shut⟩
theorem Rnd.step {J : Nat → Nat → Bool} {f n : Nat} {S0 S : List Bool} {i k : Nat} (h : Rnd J f n S0 S i k) {sk si : Bool} (hk : S[k]? = some sk) (hi : S[i]? = some si) : Rnd J f n S0 (S.set k (sk || (si && J i k))) i (k + 1) := by
  have hkn : k < S.length := (List.getElem?_eq_some_iff.1 hk).1
  have up : LeB S (S.set k (sk || (si && J i k))) := fun j hj => by
    by_cases e : j = k
    · subst e
      rw [hk] at hj
      cases hj
      rw [List.getElem?_set_self hkn]
      rfl
    · rw [List.getElem?_set_ne (Ne.symm e)]; exact hj
  refine ⟨h.len0, by rw [List.length_set]; exact h.len, fun j hj => ?_, fun j hj => up j (h.le j hj), fun i' k' hi' hk' ho hS hJ => ?_, fun hc => ?_⟩
  · by_cases e : j = k
    · subst e
      rw [List.getElem?_set_self hkn] at hj
      simp only [Option.some.injEq, Bool.or_eq_true, Bool.and_eq_true] at hj
      rcases hj with rfl | ⟨rfl, hJ⟩
      · exact h.sound j hk
      · exact .step (h.sound i hi) hJ
    · rw [List.getElem?_set_ne (Ne.symm e)] at hj; exact h.sound j hj
  · by_cases e : i' = i ∧ k' = k
    · obtain ⟨rfl, rfl⟩ := e
      have := h.le _ hS
      rw [hi] at this
      cases this
      rw [List.getElem?_set_self hkn, hJ]
      simp
    · exact up _ (h.did i' k' hi' hk' (by omega) hS hJ)
  · have e := h.shut hc
    subst e
    have : (sk || (si && J i k)) = sk := by
      cases sk
      · cases si
        · rfl
        · cases hJ : J i k
          · rfl
          · have := hc i k hkn hi hJ
            rw [hk] at this
            cases this
      · rfl
    rw [this]
    obtain ⟨h1, h2⟩ := List.getElem?_eq_some_iff.1 hk
    rw [← h2, List.set_getElem_self]
theorem Rnd.over {J : Nat → Nat → Bool} {f n r : Nat} {S0 S : List Bool} (h : Rnd J f n S0 S n 0) (hc : ClosedB J S0 ∨ r + 1 ≤ S0.count true) : ClosedB J S ∨ r + 1 + 1 ≤ S.count true := by
  by_cases g : ClosedB J S0
  · exact .inl (by rw [h.shut g]; exact g)
  · refine .inr ?_
    have hr := hc.resolve_left g
    have : ∃ i k : Nat, k < S0.length ∧ S0[i]? = some true ∧ J i k = true ∧ S0[k]? ≠ some true := by
      refine Classical.byContradiction fun hn => g fun i k hk hi hJ => Classical.byContradiction fun hne => hn ⟨i, k, hk, hi, hJ, hne⟩
    obtain ⟨i, k, hk, hi, hJ, hne⟩ := this
    have hin : i < n := h.len0 ▸ (List.getElem?_eq_some_iff.1 hi).1
    have hkn : k < n := h.len0 ▸ hk
    have hkf : S0[k]? = some false := by
      rw [List.getElem?_eq_getElem hk] at hne ⊢
      cases hb : S0[k]
      · rfl
      · exact absurd (by rw [hb]) hne
    have := count_lt (by rw [h.len0, h.len]) h.le k hkf (h.did i k hin hkn (.inl hin) hi hJ)
    omega
theorem closed_conn {J : Nat → Nat → Bool} {f n : Nat} {S : List Bool} (hJ : ∀ i k, J i k = true → k < n) (hl : S.length = n) (hf : S[f]? = some true) (hc : ClosedB J S) {k : Nat} (h : Conn J f k) : S[k]? = some true := by
  induction h with
  | refl => exact hf
  | step _ hj ih => exact hc _ _ (by rw [hl]; exact hJ _ _ hj) ih hj
theorem seen_end {ws : List Wy} {f n : Nat} {S : List Bool} (hn : ws.length = n) (hl : S.length = n) (hf : S[f]? = some true) (hs : ∀ j : Nat, S[j]? = some true → Conn (JJ ws) f j) (hc : ClosedB (JJ ws) S ∨ n + 1 ≤ S.count true) {k : Nat} {b : Bool} (hk : S[k]? = some b) : b = CC ws f k := by
  have hc : ClosedB (JJ ws) S := hc.resolve_right (by have := List.count_le_length (a := true) (l := S); omega)
  have hJ : ∀ i k, JJ ws i k = true → k < n := fun i k h => by
    obtain ⟨a, b, -, hb, -⟩ := JJ_get h
    rw [← hn]; exact (List.getElem?_eq_some_iff.1 hb).1
  cases b
  · cases h : CC ws f k
    · rfl
    · have := closed_conn hJ hl hf hc (CC_conn.1 h)
      rw [hk] at this; cases this
  · exact (CC_conn.2 (hs k hk)).symm

end Go.Proofs.YtoaldbjcpfkcjaaGreat
