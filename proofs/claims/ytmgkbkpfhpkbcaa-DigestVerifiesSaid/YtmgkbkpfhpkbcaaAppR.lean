/- Strings are appended to a slice of the call's own, from a slice that may be empty. -/
import Derived.Test.YtmgkbkpfhpkbcaaLGrows
import Derived.Maps.AppendAt
import Derived.Laws.OwnMore
namespace Go.Proofs.Ytmgkbkpfhpkbcaa
open Go.RowKit Go.Lib

theorem one_strs (ts : List (List UInt8)) : ∀ u ∈ strs ts, u.oneCell' = true := by
  intro u hu
  obtain ⟨t, _, rfl⟩ := List.mem_map.1 hu
  rfl
/-- Nothing is appended. -/
theorem run_append_nothing {w : World} {base n : Nat} {v : Value} {xs : List Value} (ty : TypeId) (hown : w.ownsRow base 9 1 v n xs) (c : Nat) : (Builtin.append_ #[28, 28] ty #[v, .slice none 0 c]).run Try.prog w = .ok v w := by
  obtain ⟨i0, hi, -, -, -⟩ := info_parts info9
  have hu := run_underlying (P := Try.prog) Try.underlying28
  rcases hown.2 with ⟨rfl, rfl⟩ | ⟨g, cap, cur, rfl, -, -, hle, -⟩
  · simp [Builtin.append_, hu, sizeOf, typeInfo, hi, Builtin.lenOf, Builtin.firstCells]
  · simp [Builtin.append_, hu, sizeOf, typeInfo, hi, Builtin.lenOf, Builtin.firstCells, hle, storeCells]
theorem run_append_row {w : World} {base n : Nat} {v vx : Value} {xs : List Value} (ty : TypeId) (hown : w.ownsRow base 9 1 v n xs) (ts : List (List UInt8)) (hr : Row w vx (strs ts)) (hn : n + ts.length ≤ 100000) (hb : base ≤ w.heap.size) :
    ∃ v' w', (Builtin.append_ #[28, 28] ty #[v, vx]).run Try.prog w = .ok v' w' ∧ w'.ownsRow base 9 1 v' (n + ts.length) (xs ++ strs ts) ∧ w.grownBy w' v.ownBlock := by
  obtain ⟨i0, hi, hz0, hz1, hz2⟩ := info_parts info9
  obtain ⟨a, cap, rfl, h1, h2, h3⟩ := hr
  rw [strs_length]
  rcases a with _ | ad
  · have h0 : ts = [] := by
      rcases h3 with h3 | ⟨b, o, h3, _⟩
      · exact List.map_eq_nil_iff.1 h3
      · cases h3
    subst h0
    exact ⟨v, w, run_append_nothing ty hown cap, by simpa [strs] using hown, World.grownBy.refl w _⟩
  · have hcells : ∀ j u, (strs ts)[j]? = some u → w.cell? (ad.add j) = some u := by
      intro j u hu
      rcases h3 with h3 | ⟨b, o, h3, h4⟩
      · rw [h3] at hu; simp at hu
      · injection h3 with h3
        subst h3
        rw [Addr.add_mid]
        exact h4 j u hu
    obtain ⟨v', w', e1, e2, e3, -, -⟩ := run_append_own_at (P := Try.prog) w base 28 ty 9 i0 (.string ⟨#[]⟩) 1 16 Try.underlying28 hi hz0 hz1 hz2 rfl (by decide) v n xs hown ad ts.length cap (strs ts) (by rw [strs_length]; omega) hcells (one_strs ts)
      (by unfold maxLen; omega) (by omega) hb
    exact ⟨v', w', e1, e2, e3⟩
/-- At a step of a region that draws its order. -/
theorem step_appR {ops : Array Oper} {o : Oper} {a : Act} {w w0 : World} {K : Act → World → Prop} {Q : Exit → Act → World → Prop} {E : Prop} (hgd : o.guard = none) (s x : Operand)
    (ho : o.op = .call { callee := .builtin .append, args := #[s, x], argTypes := #[28, 28] }) {v vx : Value} {n : Nat} {xs : List Value} (g : Grows w0 w) (hs : a.eval s = v) (hown : w.ownsRow w0.heap.size 9 1 v n xs)
    (ts : List (List UInt8)) (hx : a.eval x = vx) (hr : Row w vx (strs ts)) (hn : n + ts.length ≤ 100000)
    (h : ∀ v' w', w'.ownsRow w0.heap.size 9 1 v' (n + ts.length) (xs ++ strs ts) → Grows w0 w' → K (a.put o.dst v') w') :
    if Region.wanted o (yielded ops a.tmps) = true then Oper.wp Try.prog o a w K Q else E := by
  have hw : Region.wanted o (yielded ops a.tmps) = true := by simp [Region.wanted, hgd]
  rw [if_pos hw]
  obtain ⟨v', w', e1, e2, e3⟩ := run_append_row o.type hown ts hr hn g.size
  unfold Oper.wp execOp
  simp only [ho, resolve, invoke, builtin, Sem.run_bind, Sem.run_pure, Result.andThen_ok, List.map_toArray, List.map_cons, List.map_nil, hs, hx, e1]
  exact h v' w' e2 (g.grown e3 g.size (fun k hk => (hown.lt k hk).1))
theorem strs_snoc (xs : List (List UInt8)) (t : List UInt8) : strs xs ++ [str t] = strs (xs ++ [t]) := by rw [strs_append]; rfl
end Go.Proofs.Ytmgkbkpfhpkbcaa
