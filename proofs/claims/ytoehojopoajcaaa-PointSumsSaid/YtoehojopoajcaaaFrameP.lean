/- How a slice of points reads as data. -/
import Derived.Test.YtoehojopoajcaaaFrame
import Derived.Test.YtoehojopoajcaaaRBx
namespace Go.Proofs.Ytoehojopoajcaaa
open Go.ChangeShapes Go.WideShapes Go.ChangeAt Go.RowKit Go.Joins

theorem choose_list {α : Type} (Q : Nat → α → Prop) : ∀ (k : Nat), (∀ i, i < k → ∃ z, Q i z) → ∃ l : List α, l.length = k ∧ ∀ i z, l[i]? = some z → Q i z := by
  intro k
  induction k with
  | zero => intro _; exact ⟨[], rfl, fun i z h => by simp at h⟩
  | succ k ih =>
    intro h
    obtain ⟨l, hl, hq⟩ := ih fun i hi => h i (by omega)
    obtain ⟨z, hz⟩ := h k (by omega)
    refine ⟨l ++ [z], by simp [hl], fun i x hx => ?_⟩
    rcases Nat.lt_or_ge i k with hi | hi
    · rw [List.getElem?_append_left (by omega)] at hx
      exact hq i x hx
    · rw [List.getElem?_append_right (by omega)] at hx
      have e : i = k := by
        rcases Nat.lt_or_ge k i with h2 | h2
        · rw [List.getElem?_eq_none (by simp; omega)] at hx; cases hx
        · omega
      subst e
      simp [hl] at hx
      subst hx; exact hz

theorem cells_two {w : World} {base : Nat} {a : Addr} {cs : List Value} (h : w.cells? base a 2 = some cs) :
    ∃ c0 c1, cs = [c0, c1] ∧ ∀ j c, [c0, c1][j]? = some c → w.cell? (a.add j) = some c := by
  unfold World.cells? at h
  split at h
  · have hl := Lib.mapM_length h
    simp at hl
    match cs, hl with
    | [c0, c1], _ =>
      refine ⟨c0, c1, rfl, fun j c hc => ?_⟩
      have hj : j < 2 := by
        have := (List.getElem?_eq_some_iff.1 hc).1
        simpa using this
      obtain ⟨b, hb, hf⟩ := Lib.mapM_at h j j (by simp [hj])
      rw [hc] at hb
      obtain rfl := Option.some.inj hb
      exact hf
  · cases h

section
variable {H : Type} {enc : TypeId × Value → H} {W : World}
theorem cell_int {m : Nat} {c : Value} {x : DataW H × List MemPlace} (h : DataW.trod enc Try.prog W 0 (fun _ => true) true m 3 [c] = some x) :
    ∃ z, c = .int .i64 z ∧ -9223372036854775808 ≤ z ∧ z ≤ 9223372036854775807 := by
  obtain ⟨z, hz, _, wf⟩ := DataW.trod_int Try.underlying3 h
  simp at hz
  simp [Lit.wf, IntKind.min, IntKind.max, IntKind.bits, IntKind.signed] at wf
  exact ⟨z, hz, by omega⟩
theorem cells_pt {m : Nat} {c0 c1 : Value} {x : DataW H × List MemPlace} (h : DataW.trod enc Try.prog W 0 (fun _ => true) true m 28 [c0, c1] = some x) :
    ∃ a b : Int, c0 = .int .i64 a ∧ c1 = .int .i64 b ∧ (-9223372036854775808 ≤ a ∧ a ≤ 9223372036854775807) ∧ (-9223372036854775808 ≤ b ∧ b ≤ 9223372036854775807) := by
  obtain ⟨xs, n, _, _, _, hl, hi⟩ := DataW.trod_struct Try.underlying28 h
  obtain ⟨x0, e0⟩ := some_at (i := 0) hl (by decide)
  obtain ⟨x1, e1⟩ := some_at (i := 1) hl (by decide)
  have h0 : DataW.trod enc Try.prog W 0 (fun _ => true) true n 3 (([c0, c1].drop 0).take (Try.prog.cellsOf 3)) = xs[0]? := hi 0 _ rfl
  have h1 : DataW.trod enc Try.prog W 0 (fun _ => true) true n 3 (([c0, c1].drop 1).take (Try.prog.cellsOf 3)) = xs[1]? := hi 1 _ rfl
  rw [cells3, e0] at h0
  rw [cells3, e1] at h1
  obtain ⟨a, rfl, ba⟩ := cell_int h0
  obtain ⟨b, rfl, bb⟩ := cell_int h1
  exact ⟨a, b, rfl, rfl, ba, bb⟩

set_option maxRecDepth 100000 in
theorem arg_pts {r : Reach} {b0 : Nat} {v : Value} {d : DataW H} {p : List MemPlace} (hv : Value.okWide Try.prog W r b0 22 v) (h : DataW.Trod enc Try.prog W 0 (fun _ => true) true 22 v d p) :
    ∃ ps : List (Int × Int), RowP W v ps ∧ OkP ps := by
  obtain ⟨a0, len0, cap0, rfl⟩ := okWide_slice Try.underlying22 hv
  obtain ⟨m, hf⟩ := h
  rcases DataW.trod_slice Try.underlying22 hf with ⟨h0, _⟩ | ⟨a, len, cap, elems, rest, n, _, hcs, -, hb, hl, hm, hlen, hel, -, -⟩
  · simp [Value.cells] at h0
    obtain ⟨rfl, rfl, rfl⟩ := h0
    exact ⟨[], ⟨none, 0, rfl, by simp, by simp, .inl rfl⟩, fun _ h => by cases h⟩
  · simp [Value.cells] at hcs
    obtain ⟨rfl, rfl, rfl⟩ := hcs
    have each : ∀ i, i < len0 → ∃ z : Int × Int, ((-9223372036854775808 ≤ z.1 ∧ z.1 ≤ 9223372036854775807) ∧ (-9223372036854775808 ≤ z.2 ∧ z.2 ≤ 9223372036854775807)) ∧ ∀ j c, ([.int .i64 z.1, .int .i64 z.2] : List Value)[j]? = some c → W.cell? ((a.add (i * 2)).add j) = some c := by
      intro i hi
      have hE := hel i hi
      rw [List.getElem?_eq_getElem (by omega), cells28, Option.bind_eq_some_iff] at hE
      obtain ⟨cs', hcs, hy'⟩ := hE
      obtain ⟨c0, c1, rfl, hc⟩ := cells_two hcs
      obtain ⟨x, y, rfl, rfl, bx, by'⟩ := cells_pt hy'
      exact ⟨(x, y), ⟨bx, by'⟩, fun j c h => hc j c h⟩
    obtain ⟨vs, hll, hq⟩ := choose_list (fun i (z : Int × Int) => ((-9223372036854775808 ≤ z.1 ∧ z.1 ≤ 9223372036854775807) ∧ (-9223372036854775808 ≤ z.2 ∧ z.2 ≤ 9223372036854775807)) ∧ ∀ j c, ([.int .i64 z.1, .int .i64 z.2] : List Value)[j]? = some c → W.cell? ((a.add (i * 2)).add j) = some c) len0 each
    unfold maxLen at hm
    refine ⟨vs, ⟨some a, cap0, by rw [hll], by rw [hll]; exact hl, by omega, ?_⟩, fun z hz => ?_⟩
    · rcases vs with _ | ⟨z0, vs⟩
      · exact .inl rfl
      · right
        obtain ⟨b, off, spot⟩ := a
        have hspot : spot = none := by simpa [Addr.add] using World.cell?_spot ((hq 0 z0 rfl).2 0 _ rfl)
        subst hspot
        refine ⟨b, off, rfl, fun i u hu => ?_⟩
        have k0 := (hq i u hu).2 0 _ rfl
        have k1 := (hq i u hu).2 1 _ rfl
        rw [add_plain, add_plain, Nat.add_zero] at k0
        rw [add_plain, add_plain] at k1
        exact ⟨k0, k1⟩
    · obtain ⟨i, hi⟩ := List.getElem?_of_mem hz
      exact (hq i z hi).1
end

end Go.Proofs.Ytoehojopoajcaaa
