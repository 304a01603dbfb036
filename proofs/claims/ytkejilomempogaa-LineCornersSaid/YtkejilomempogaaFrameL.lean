/- How the arguments of the line laws read as data. -/
import Derived.Test.YtkejilomempogaaMv
import Derived.ProofKit
import Derived.OpenShut
import Derived.MakeChecks
import Derived.Lib.SmallJoins
namespace Go.Proofs.Ytkejilomempogaa
open Go.ChangeShapes Go.WideShapes Go.ChangeAt Go.RowKit Go.Joins

set_option maxRecDepth 100000
theorem own : ownKnob Try.prog.godebug = none := by kernel_rfl
theorem laidOut : laidOutB Try.prog = true := by kernel_rfl
theorem cells3 : Try.prog.cellsOf 3 = 1 := by kernel_rfl
theorem cells34 : Try.prog.cellsOf 34 = 3 := by kernel_rfl
theorem cells36 : Try.prog.cellsOf 36 = 2 := by kernel_rfl
theorem cells42 : Try.prog.cellsOf 42 = 10 := by kernel_rfl
theorem cells50 : Try.prog.cellsOf 50 = 1 := by kernel_rfl
theorem cells51 : Try.prog.cellsOf 51 = 2 := by kernel_rfl
theorem okWide_array {P : Program} {w : World} {r : Reach} {base : Nat} {t : TypeId} {v : Value} {n : Nat} {e : TypeId} (ht : P.underlying t = some (.array n e)) (h : Value.okWide P w r base t v) : ∃ cs, v = .agg cs ∧ cs.size = P.cellsOf t := by
  simp only [Value.okWide, ht] at h
  obtain ⟨cs, h1, h2, _⟩ := h
  exact ⟨cs, h1, h2⟩
theorem array_2 {α : Type} {cs : Array α} (h : cs.size = 2) : ∃ c0 c1, cs = #[c0, c1] := by
  obtain ⟨l⟩ := cs
  match l, h with
  | [c0, c1], _ => exact ⟨c0, c1, rfl⟩
theorem array_3 {α : Type} {cs : Array α} (h : cs.size = 3) : ∃ c0 c1 c2, cs = #[c0, c1, c2] := by
  obtain ⟨l⟩ := cs
  match l, h with
  | [c0, c1, c2], _ => exact ⟨c0, c1, c2, rfl⟩
theorem array_10 {α : Type} {cs : Array α} (h : cs.size = 10) : ∃ c0 c1 c2 c3 c4 c5 c6 c7 c8 c9, cs = #[c0, c1, c2, c3, c4, c5, c6, c7, c8, c9] := by
  obtain ⟨l⟩ := cs
  match l, h with
  | [c0, c1, c2, c3, c4, c5, c6, c7, c8, c9], _ => exact ⟨c0, c1, c2, c3, c4, c5, c6, c7, c8, c9, rfl⟩
theorem some_at {α : Type} {xs : List α} {n i : Nat} (hl : xs.length = n) (hi : i < n) : ∃ x, xs[i]? = some x := ⟨_, List.getElem?_eq_getElem (by omega)⟩
theorem choose_list {α : Type} (Q : Nat → α → Prop) : ∀ (k : Nat), (∀ i, i < k → ∃ z, Q i z) → ∃ l : List α, l.length = k ∧ ∀ i z, l[i]? = some z → Q i z := by
  intro k
  induction k with
  | zero => intro _; exact ⟨[], rfl, fun i z h => by simp at h⟩
  | succ k ih =>
    intro h
    obtain ⟨l, hl, hq⟩ := ih fun i hi => h i (by omega)
    obtain ⟨z, hz⟩ := h k (by omega)
    refine ⟨l ++ [z], by simp [hl], fun i x hx => ?_⟩
    rcases Nat.lt_or_ge i k with hi | hi
    · rw [List.getElem?_append_left (by omega)] at hx
      exact hq i x hx
    · rw [List.getElem?_append_right (by omega)] at hx
      have e : i = k := by
        rcases Nat.lt_or_ge k i with h2 | h2
        · rw [List.getElem?_eq_none (by simp; omega)] at hx; cases hx
        · omega
      subst e
      simp [hl] at hx
      subst hx; exact hz

theorem cells_two {w : World} {base : Nat} {a : Addr} {cs : List Value} (h : w.cells? base a 2 = some cs) :
    ∃ c0 c1, cs = [c0, c1] ∧ ∀ j c, [c0, c1][j]? = some c → w.cell? (a.add j) = some c := by
  unfold World.cells? at h
  split at h
  · have hl := Lib.mapM_length h
    simp at hl
    match cs, hl with
    | [c0, c1], _ =>
      refine ⟨c0, c1, rfl, fun j c hc => ?_⟩
      have hj : j < 2 := by
        have := (List.getElem?_eq_some_iff.1 hc).1
        simpa using this
      obtain ⟨b, hb, hf⟩ := Lib.mapM_at h j j (by simp [hj])
      rw [hc] at hb
      obtain rfl := Option.some.inj hb
      exact hf
  · cases h

theorem cells_one {w : World} {base : Nat} {a : Addr} {cs : List Value} (h : w.cells? base a 1 = some cs) :
    ∃ c0, cs = [c0] ∧ ∀ j c, [c0][j]? = some c → w.cell? (a.add j) = some c := by
  unfold World.cells? at h
  split at h
  · have hl := Lib.mapM_length h
    simp at hl
    match cs, hl with
    | [c0], _ =>
      refine ⟨c0, rfl, fun j c hc => ?_⟩
      have hj : j < 1 := by
        have := (List.getElem?_eq_some_iff.1 hc).1
        simpa using this
      obtain ⟨b, hb, hf⟩ := Lib.mapM_at h j j (by rw [show j = 0 by omega]; rfl)
      rw [hc] at hb
      obtain rfl := Option.some.inj hb
      exact hf
  · cases h

section
variable {H : Type} {enc : TypeId × Value → H} {W : World}
theorem cell_int {m : Nat} {c : Value} {x : DataW H × List MemPlace} (h : DataW.trod enc Try.prog W 0 (fun _ => true) true m 3 [c] = some x) :
    ∃ z, c = .int .i64 z ∧ -9223372036854775808 ≤ z ∧ z ≤ 9223372036854775807 := by
  obtain ⟨z, hz, _, wf⟩ := DataW.trod_int Try.underlying3 h
  simp at hz
  simp [Lit.wf, IntKind.min, IntKind.max, IntKind.bits, IntKind.signed] at wf
  exact ⟨z, hz, by omega⟩
theorem cell_u16 {m : Nat} {c : Value} {x : DataW H × List MemPlace} (h : DataW.trod enc Try.prog W 0 (fun _ => true) true m 50 [c] = some x) : ∃ z : Int, c = .int .u16 z ∧ 0 ≤ z ∧ z ≤ 65535 := by
  obtain ⟨z, hz, _, wf⟩ := DataW.trod_int Try.underlying50 h
  simp at hz
  simp [Lit.wf, IntKind.min, IntKind.max, IntKind.bits, IntKind.signed] at wf
  exact ⟨z, hz, by omega, by omega⟩
theorem cells_pt {m : Nat} {c0 c1 : Value} {x : DataW H × List MemPlace} (h : DataW.trod enc Try.prog W 0 (fun _ => true) true m 36 [c0, c1] = some x) :
    ∃ a b : Int, c0 = .int .i64 a ∧ c1 = .int .i64 b ∧ (-9223372036854775808 ≤ a ∧ a ≤ 9223372036854775807) ∧ (-9223372036854775808 ≤ b ∧ b ≤ 9223372036854775807) := by
  obtain ⟨xs, n, _, _, _, hl, hi⟩ := DataW.trod_struct Try.underlying36 h
  obtain ⟨x0, e0⟩ := some_at (i := 0) hl (by decide)
  obtain ⟨x1, e1⟩ := some_at (i := 1) hl (by decide)
  have h0 : DataW.trod enc Try.prog W 0 (fun _ => true) true n 3 (([c0, c1].drop 0).take (Try.prog.cellsOf 3)) = xs[0]? := hi 0 _ rfl
  have h1 : DataW.trod enc Try.prog W 0 (fun _ => true) true n 3 (([c0, c1].drop 1).take (Try.prog.cellsOf 3)) = xs[1]? := hi 1 _ rfl
  rw [cells3, e0] at h0
  rw [cells3, e1] at h1
  obtain ⟨a, rfl, ba⟩ := cell_int h0
  obtain ⟨b, rfl, bb⟩ := cell_int h1
  exact ⟨a, b, rfl, rfl, ba, bb⟩

set_option maxRecDepth 100000 in
theorem arg_pts {r : Reach} {b0 : Nat} {v : Value} {d : DataW H} {p : List MemPlace} (hv : Value.okWide Try.prog W r b0 23 v) (h : DataW.Trod enc Try.prog W 0 (fun _ => true) true 23 v d p) :
    ∃ ps : List (Int × Int), RowP W v ps ∧ ∀ p ∈ ps, (-9223372036854775808 ≤ p.1 ∧ p.1 ≤ 9223372036854775807) ∧ (-9223372036854775808 ≤ p.2 ∧ p.2 ≤ 9223372036854775807) := by
  obtain ⟨a0, len0, cap0, rfl⟩ := okWide_slice Try.underlying23 hv
  obtain ⟨m, hf⟩ := h
  rcases DataW.trod_slice Try.underlying23 hf with ⟨h0, _⟩ | ⟨a, len, cap, elems, rest, n, _, hcs, -, hb, hl, hm, hlen, hel, -, -⟩
  · simp [Value.cells] at h0
    obtain ⟨rfl, rfl, rfl⟩ := h0
    exact ⟨[], ⟨none, 0, rfl, by simp, by simp, .inl rfl⟩, fun _ h => by cases h⟩
  · simp [Value.cells] at hcs
    obtain ⟨rfl, rfl, rfl⟩ := hcs
    have each : ∀ i, i < len0 → ∃ z : Int × Int, ((-9223372036854775808 ≤ z.1 ∧ z.1 ≤ 9223372036854775807) ∧ (-9223372036854775808 ≤ z.2 ∧ z.2 ≤ 9223372036854775807)) ∧ ∀ j c, ([.int .i64 z.1, .int .i64 z.2] : List Value)[j]? = some c → W.cell? ((a.add (i * 2)).add j) = some c := by
      intro i hi
      have hE := hel i hi
      rw [List.getElem?_eq_getElem (by omega), cells36, Option.bind_eq_some_iff] at hE
      obtain ⟨cs', hcs, hy'⟩ := hE
      obtain ⟨c0, c1, rfl, hc⟩ := cells_two hcs
      obtain ⟨x, y, rfl, rfl, bx, by'⟩ := cells_pt hy'
      exact ⟨(x, y), ⟨bx, by'⟩, fun j c h => hc j c h⟩
    obtain ⟨vs, hll, hq⟩ := choose_list (fun i (z : Int × Int) => ((-9223372036854775808 ≤ z.1 ∧ z.1 ≤ 9223372036854775807) ∧ (-9223372036854775808 ≤ z.2 ∧ z.2 ≤ 9223372036854775807)) ∧ ∀ j c, ([.int .i64 z.1, .int .i64 z.2] : List Value)[j]? = some c → W.cell? ((a.add (i * 2)).add j) = some c) len0 each
    unfold maxLen at hm
    refine ⟨vs, ⟨some a, cap0, by rw [hll], by rw [hll]; exact hl, by omega, ?_⟩, fun z hz => ?_⟩
    · rcases vs with _ | ⟨z0, vs⟩
      · exact .inl rfl
      · right
        obtain ⟨b, off, spot⟩ := a
        have hspot : spot = none := by simpa [Addr.add] using World.cell?_spot ((hq 0 z0 rfl).2 0 _ rfl)
        subst hspot
        refine ⟨b, off, rfl, fun i u hu => ?_⟩
        have k0 := (hq i u hu).2 0 _ rfl
        have k1 := (hq i u hu).2 1 _ rfl
        rw [add_plain, add_plain, Nat.add_zero] at k0
        rw [add_plain, add_plain] at k1
        exact ⟨k0, k1⟩
    · obtain ⟨i, hi⟩ := List.getElem?_of_mem hz
      exact (hq i z hi).1
set_option maxRecDepth 100000 in
theorem arg_ints {r : Reach} {b0 : Nat} {v : Value} {d : DataW H} {p : List MemPlace} (hv : Value.okWide Try.prog W r b0 22 v) (h : DataW.Trod enc Try.prog W 0 (fun _ => true) true 22 v d p) :
    ∃ xs : List Int, RowN W v xs := by
  obtain ⟨a0, len0, cap0, rfl⟩ := okWide_slice Try.underlying22 hv
  obtain ⟨m, hf⟩ := h
  rcases DataW.trod_slice Try.underlying22 hf with ⟨h0, _⟩ | ⟨a, len, cap, elems, rest, n, _, hcs, -, hb, hl, hm, hlen, hel, -, -⟩
  · simp [Value.cells] at h0
    obtain ⟨rfl, rfl, rfl⟩ := h0
    exact ⟨[], none, 0, rfl, by simp, by simp, .inl rfl⟩
  · simp [Value.cells] at hcs
    obtain ⟨rfl, rfl, rfl⟩ := hcs
    have each : ∀ i, i < len0 → ∃ z : Int, ∀ j c, ([.int .i64 z] : List Value)[j]? = some c → W.cell? ((a.add (i * Try.prog.cellsOf 3)).add j) = some c := by
      intro i hi
      have hE := hel i hi
      rw [List.getElem?_eq_getElem (by omega), Option.bind_eq_some_iff] at hE
      obtain ⟨cs', hcs, hy'⟩ := hE
      rw [cells3] at hcs
      obtain ⟨c0, rfl, hc⟩ := cells_one hcs
      obtain ⟨x, rfl, bx, by'⟩ := cell_int hy'
      rw [cells3]
      exact ⟨x, fun j c h => hc j c h⟩
    obtain ⟨vs, hll, hq⟩ := choose_list (fun i (z : Int) => ∀ j c, ([.int .i64 z] : List Value)[j]? = some c → W.cell? ((a.add (i * Try.prog.cellsOf 3)).add j) = some c) len0 each
    unfold maxLen at hm
    refine ⟨vs, some a, cap0, by rw [hll], by rw [hll]; exact hl, by omega, ?_⟩
    rcases vs with _ | ⟨z0, vs⟩
    · exact .inl rfl
    · right
      obtain ⟨b, off, spot⟩ := a
      have hspot : spot = none := by simpa [Addr.add] using World.cell?_spot (hq 0 z0 rfl 0 _ rfl)
      subst hspot
      refine ⟨b, off, rfl, fun i u hu => ?_⟩
      have k0 := hq i u hu 0 _ rfl
      rw [add_plain, add_plain, cells3, Nat.mul_one, Nat.add_zero] at k0
      exact k0
section
variable {r : Reach} {b0 : Nat} {v : Value} {d : DataW H} {p : List MemPlace}
/-- A point, by value. -/
theorem arg_pt (hv : Value.okWide Try.prog W r b0 36 v) (h : DataW.Trod enc Try.prog W 0 (fun _ => true) true 36 v d p) : ∃ a b : Int, v = .agg #[.int .i64 a, .int .i64 b] ∧ (-9223372036854775808 ≤ a ∧ a ≤ 9223372036854775807) ∧ (-9223372036854775808 ≤ b ∧ b ≤ 9223372036854775807) := by
  obtain ⟨cs, rfl, hsz⟩ := okWide_struct Try.underlying36 hv
  obtain ⟨c0, c1, rfl⟩ := array_2 (hsz.trans cells36)
  obtain ⟨m, hf⟩ := h
  obtain ⟨a, b, rfl, rfl, ba, bb⟩ := cells_pt hf
  exact ⟨a, b, rfl, ba, bb⟩
/-- Three numbers, by value. -/
theorem arg_trio (hv : Value.okWide Try.prog W r b0 34 v) (h : DataW.Trod enc Try.prog W 0 (fun _ => true) true 34 v d p) :
    ∃ a0 a1 a2 : Int, v = .agg #[.int .i64 a0, .int .i64 a1, .int .i64 a2] ∧ (-9223372036854775808 ≤ a0 ∧ a0 ≤ 9223372036854775807) ∧ (-9223372036854775808 ≤ a1 ∧ a1 ≤ 9223372036854775807) ∧ (-9223372036854775808 ≤ a2 ∧ a2 ≤ 9223372036854775807) := by
  obtain ⟨cs, rfl, hsz⟩ := okWide_array Try.underlying34 hv
  obtain ⟨c0, c1, c2, rfl⟩ := array_3 (hsz.trans cells34)
  obtain ⟨fuel, hf⟩ := h
  obtain ⟨xs, m, _, _, _, hl, hi⟩ := DataW.trod_array Try.underlying34 hf
  simp only [Value.cells, cells3] at hi
  obtain ⟨x0, e0⟩ := some_at (i := 0) hl (by decide)
  obtain ⟨x1, e1⟩ := some_at (i := 1) hl (by decide)
  obtain ⟨x2, e2⟩ := some_at (i := 2) hl (by decide)
  have h0 := hi 0 (by omega)
  have h1 := hi 1 (by omega)
  have h2 := hi 2 (by omega)
  rw [e0] at h0
  rw [e1] at h1
  rw [e2] at h2
  obtain ⟨a0, rfl, b0⟩ := cell_int h0
  obtain ⟨a1, rfl, b1⟩ := cell_int h1
  obtain ⟨a2, rfl, b2⟩ := cell_int h2
  exact ⟨a0, a1, a2, rfl, b0, b1, b2⟩
/-- Two numbers of 16 bits, by value. -/
theorem arg_pair (hv : Value.okWide Try.prog W r b0 51 v) (h : DataW.Trod enc Try.prog W 0 (fun _ => true) true 51 v d p) :
    ∃ a0 a1 : Int, v = .agg #[.int .u16 a0, .int .u16 a1] ∧ (0 ≤ a0 ∧ a0 ≤ 65535) ∧ (0 ≤ a1 ∧ a1 ≤ 65535) := by
  obtain ⟨cs, rfl, hsz⟩ := okWide_array Try.underlying51 hv
  obtain ⟨c0, c1, rfl⟩ := array_2 (hsz.trans cells51)
  obtain ⟨fuel, hf⟩ := h
  obtain ⟨xs, m, _, _, _, hl, hi⟩ := DataW.trod_array Try.underlying51 hf
  simp only [Value.cells, cells50] at hi
  obtain ⟨x0, e0⟩ := some_at (i := 0) hl (by decide)
  obtain ⟨x1, e1⟩ := some_at (i := 1) hl (by decide)
  have h0 := hi 0 (by omega)
  have h1 := hi 1 (by omega)
  rw [e0] at h0
  rw [e1] at h1
  obtain ⟨a0, rfl, b0⟩ := cell_u16 h0
  obtain ⟨a1, rfl, b1⟩ := cell_u16 h1
  exact ⟨a0, a1, rfl, b0, b1⟩
/-- Five points, by value. -/
theorem arg_five (hv : Value.okWide Try.prog W r b0 42 v) (h : DataW.Trod enc Try.prog W 0 (fun _ => true) true 42 v d p) :
    ∃ a0 a1 a2 a3 a4 a5 a6 a7 a8 a9 : Int, v = .agg #[.int .i64 a0, .int .i64 a1, .int .i64 a2, .int .i64 a3, .int .i64 a4, .int .i64 a5, .int .i64 a6, .int .i64 a7, .int .i64 a8, .int .i64 a9] := by
  obtain ⟨cs, rfl, hsz⟩ := okWide_array Try.underlying42 hv
  obtain ⟨c0, c1, c2, c3, c4, c5, c6, c7, c8, c9, rfl⟩ := array_10 (hsz.trans cells42)
  obtain ⟨fuel, hf⟩ := h
  obtain ⟨xs, m, _, _, _, hl, hi⟩ := DataW.trod_array Try.underlying42 hf
  simp only [Value.cells, cells36] at hi
  obtain ⟨x0, e0⟩ := some_at (i := 0) hl (by decide)
  have h0 := hi 0 (by omega)
  rw [e0] at h0
  obtain ⟨a0, a1, rfl, rfl, -, -⟩ := cells_pt h0
  obtain ⟨x1, e1⟩ := some_at (i := 1) hl (by decide)
  have h1 := hi 1 (by omega)
  rw [e1] at h1
  obtain ⟨a2, a3, rfl, rfl, -, -⟩ := cells_pt h1
  obtain ⟨x2, e2⟩ := some_at (i := 2) hl (by decide)
  have h2 := hi 2 (by omega)
  rw [e2] at h2
  obtain ⟨a4, a5, rfl, rfl, -, -⟩ := cells_pt h2
  obtain ⟨x3, e3⟩ := some_at (i := 3) hl (by decide)
  have h3 := hi 3 (by omega)
  rw [e3] at h3
  obtain ⟨a6, a7, rfl, rfl, -, -⟩ := cells_pt h3
  obtain ⟨x4, e4⟩ := some_at (i := 4) hl (by decide)
  have h4 := hi 4 (by omega)
  rw [e4] at h4
  obtain ⟨a8, a9, rfl, rfl, -, -⟩ := cells_pt h4
  exact ⟨a0, a1, a2, a3, a4, a5, a6, a7, a8, a9, rfl⟩
end
end
end Go.Proofs.Ytkejilomempogaa
