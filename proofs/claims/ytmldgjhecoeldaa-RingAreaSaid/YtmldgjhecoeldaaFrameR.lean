/- How the arguments of the ring laws read as data. -/
import Derived.Test.YtmldgjhecoeldaaMv
import Derived.ProofKit
import Derived.OpenShut
import Derived.MakeChecks
import Derived.Lib.SmallJoins
namespace Go.Proofs.Ytmldgjhecoeldaa
open Go.ChangeShapes Go.WideShapes Go.ChangeAt Go.RowKit Go.Joins

set_option maxRecDepth 100000
theorem own : ownKnob Try.prog.godebug = none := by kernel_rfl
theorem laidOut : laidOutB Try.prog = true := by kernel_rfl
theorem cells3 : Try.prog.cellsOf 3 = 1 := by kernel_rfl
theorem cells4 : Try.prog.cellsOf 4 = 1 := by kernel_rfl
theorem cells5 : Try.prog.cellsOf 5 = 1 := by kernel_rfl
theorem cells24 : Try.prog.cellsOf 24 = 2 := by kernel_rfl
theorem cells37 : Try.prog.cellsOf 37 = 6 := by kernel_rfl
theorem cells39 : Try.prog.cellsOf 39 = 3 := by kernel_rfl
theorem cells40 : Try.prog.cellsOf 40 = 6 := by kernel_rfl
theorem cells44 : Try.prog.cellsOf 44 = 2 := by kernel_rfl
theorem cells48 : Try.prog.cellsOf 48 = 5 := by kernel_rfl
theorem okWide_array {P : Program} {w : World} {r : Reach} {base : Nat} {t : TypeId} {v : Value} {n : Nat} {e : TypeId} (ht : P.underlying t = some (.array n e)) (h : Value.okWide P w r base t v) : ∃ cs, v = .agg cs ∧ cs.size = P.cellsOf t := by
  simp only [Value.okWide, ht] at h
  obtain ⟨cs, h1, h2, _⟩ := h
  exact ⟨cs, h1, h2⟩
theorem array_2 {α : Type} {cs : Array α} (h : cs.size = 2) : ∃ c0 c1, cs = #[c0, c1] := by
  obtain ⟨l⟩ := cs
  match l, h with
  | [c0, c1], _ => exact ⟨c0, c1, rfl⟩
theorem array_3 {α : Type} {cs : Array α} (h : cs.size = 3) : ∃ c0 c1 c2, cs = #[c0, c1, c2] := by
  obtain ⟨l⟩ := cs
  match l, h with
  | [c0, c1, c2], _ => exact ⟨c0, c1, c2, rfl⟩
theorem array_5 {α : Type} {cs : Array α} (h : cs.size = 5) : ∃ c0 c1 c2 c3 c4, cs = #[c0, c1, c2, c3, c4] := by
  obtain ⟨l⟩ := cs
  match l, h with
  | [c0, c1, c2, c3, c4], _ => exact ⟨c0, c1, c2, c3, c4, rfl⟩
theorem array_6 {α : Type} {cs : Array α} (h : cs.size = 6) : ∃ c0 c1 c2 c3 c4 c5, cs = #[c0, c1, c2, c3, c4, c5] := by
  obtain ⟨l⟩ := cs
  match l, h with
  | [c0, c1, c2, c3, c4, c5], _ => exact ⟨c0, c1, c2, c3, c4, c5, rfl⟩
theorem array_10 {α : Type} {cs : Array α} (h : cs.size = 10) : ∃ c0 c1 c2 c3 c4 c5 c6 c7 c8 c9, cs = #[c0, c1, c2, c3, c4, c5, c6, c7, c8, c9] := by
  obtain ⟨l⟩ := cs
  match l, h with
  | [c0, c1, c2, c3, c4, c5, c6, c7, c8, c9], _ => exact ⟨c0, c1, c2, c3, c4, c5, c6, c7, c8, c9, rfl⟩
theorem some_at {α : Type} {xs : List α} {n i : Nat} (hl : xs.length = n) (hi : i < n) : ∃ x, xs[i]? = some x := ⟨_, List.getElem?_eq_getElem (by omega)⟩
theorem choose_list {α : Type} (Q : Nat → α → Prop) : ∀ (k : Nat), (∀ i, i < k → ∃ z, Q i z) → ∃ l : List α, l.length = k ∧ ∀ i z, l[i]? = some z → Q i z := by
  intro k
  induction k with
  | zero => intro _; exact ⟨[], rfl, fun i z h => by simp at h⟩
  | succ k ih =>
    intro h
    obtain ⟨l, hl, hq⟩ := ih fun i hi => h i (by omega)
    obtain ⟨z, hz⟩ := h k (by omega)
    refine ⟨l ++ [z], by simp [hl], fun i x hx => ?_⟩
    rcases Nat.lt_or_ge i k with hi | hi
    · rw [List.getElem?_append_left (by omega)] at hx
      exact hq i x hx
    · rw [List.getElem?_append_right (by omega)] at hx
      have e : i = k := by
        rcases Nat.lt_or_ge k i with h2 | h2
        · rw [List.getElem?_eq_none (by simp; omega)] at hx; cases hx
        · omega
      subst e
      simp [hl] at hx
      subst hx; exact hz

theorem cells_two {w : World} {base : Nat} {a : Addr} {cs : List Value} (h : w.cells? base a 2 = some cs) :
    ∃ c0 c1, cs = [c0, c1] ∧ ∀ j c, [c0, c1][j]? = some c → w.cell? (a.add j) = some c := by
  unfold World.cells? at h
  split at h
  · have hl := Lib.mapM_length h
    simp at hl
    match cs, hl with
    | [c0, c1], _ =>
      refine ⟨c0, c1, rfl, fun j c hc => ?_⟩
      have hj : j < 2 := by
        have := (List.getElem?_eq_some_iff.1 hc).1
        simpa using this
      obtain ⟨b, hb, hf⟩ := Lib.mapM_at h j j (by simp [hj])
      rw [hc] at hb
      obtain rfl := Option.some.inj hb
      exact hf
  · cases h

theorem cells_one {w : World} {base : Nat} {a : Addr} {cs : List Value} (h : w.cells? base a 1 = some cs) :
    ∃ c0, cs = [c0] ∧ ∀ j c, [c0][j]? = some c → w.cell? (a.add j) = some c := by
  unfold World.cells? at h
  split at h
  · have hl := Lib.mapM_length h
    simp at hl
    match cs, hl with
    | [c0], _ =>
      refine ⟨c0, rfl, fun j c hc => ?_⟩
      have hj : j < 1 := by
        have := (List.getElem?_eq_some_iff.1 hc).1
        simpa using this
      obtain ⟨b, hb, hf⟩ := Lib.mapM_at h j j (by rw [show j = 0 by omega]; rfl)
      rw [hc] at hb
      obtain rfl := Option.some.inj hb
      exact hf
  · cases h

section
variable {H : Type} {enc : TypeId × Value → H} {W : World}
theorem cell_int {m : Nat} {c : Value} {x : DataW H × List MemPlace} (h : DataW.trod enc Try.prog W 0 (fun _ => true) true m 3 [c] = some x) :
    ∃ z, c = .int .i64 z ∧ -9223372036854775808 ≤ z ∧ z ≤ 9223372036854775807 := by
  obtain ⟨z, hz, _, wf⟩ := DataW.trod_int Try.underlying3 h
  simp at hz
  simp [Lit.wf, IntKind.min, IntKind.max, IntKind.bits, IntKind.signed] at wf
  exact ⟨z, hz, by omega⟩
theorem cell_u8 {m : Nat} {c : Value} {x : DataW H × List MemPlace} (h : DataW.trod enc Try.prog W 0 (fun _ => true) true m 5 [c] = some x) : ∃ z : Int, c = .int .u8 z ∧ 0 ≤ z ∧ z ≤ 255 := by
  obtain ⟨z, hz, _, wf⟩ := DataW.trod_int Try.underlying5 h
  simp at hz
  simp [Lit.wf, IntKind.min, IntKind.max, IntKind.bits, IntKind.signed] at wf
  exact ⟨z, hz, by omega, by omega⟩
theorem cell_bool {m : Nat} {c : Value} {x : DataW H × List MemPlace} (h : DataW.trod enc Try.prog W 0 (fun _ => true) true m 4 [c] = some x) : ∃ z : Bool, c = .bool z := by
  cases m with
  | zero => simp [DataW.trod] at h
  | succ m =>
    unfold DataW.trod at h
    rw [Try.underlying4] at h
    simp at h
    split at h <;> simp_all
theorem cells_pt {m : Nat} {c0 c1 : Value} {x : DataW H × List MemPlace} (h : DataW.trod enc Try.prog W 0 (fun _ => true) true m 24 [c0, c1] = some x) :
    ∃ a b : Int, c0 = .int .i64 a ∧ c1 = .int .i64 b ∧ (-9223372036854775808 ≤ a ∧ a ≤ 9223372036854775807) ∧ (-9223372036854775808 ≤ b ∧ b ≤ 9223372036854775807) := by
  obtain ⟨xs, n, _, _, _, hl, hi⟩ := DataW.trod_struct Try.underlying24 h
  obtain ⟨x0, e0⟩ := some_at (i := 0) hl (by decide)
  obtain ⟨x1, e1⟩ := some_at (i := 1) hl (by decide)
  have h0 : DataW.trod enc Try.prog W 0 (fun _ => true) true n 3 (([c0, c1].drop 0).take (Try.prog.cellsOf 3)) = xs[0]? := hi 0 _ rfl
  have h1 : DataW.trod enc Try.prog W 0 (fun _ => true) true n 3 (([c0, c1].drop 1).take (Try.prog.cellsOf 3)) = xs[1]? := hi 1 _ rfl
  rw [cells3, e0] at h0
  rw [cells3, e1] at h1
  obtain ⟨a, rfl, ba⟩ := cell_int h0
  obtain ⟨b, rfl, bb⟩ := cell_int h1
  exact ⟨a, b, rfl, rfl, ba, bb⟩

set_option maxRecDepth 100000 in
theorem arg_pts {r : Reach} {b0 : Nat} {v : Value} {d : DataW H} {p : List MemPlace} (hv : Value.okWide Try.prog W r b0 25 v) (h : DataW.Trod enc Try.prog W 0 (fun _ => true) true 25 v d p) :
    ∃ ps : List (Int × Int), RowP W v ps ∧ ∀ p ∈ ps, (-9223372036854775808 ≤ p.1 ∧ p.1 ≤ 9223372036854775807) ∧ (-9223372036854775808 ≤ p.2 ∧ p.2 ≤ 9223372036854775807) := by
  obtain ⟨a0, len0, cap0, rfl⟩ := okWide_slice Try.underlying25 hv
  obtain ⟨m, hf⟩ := h
  rcases DataW.trod_slice Try.underlying25 hf with ⟨h0, _⟩ | ⟨a, len, cap, elems, rest, n, _, hcs, -, hb, hl, hm, hlen, hel, -, -⟩
  · simp [Value.cells] at h0
    obtain ⟨rfl, rfl, rfl⟩ := h0
    exact ⟨[], ⟨none, 0, rfl, by simp, by simp, .inl rfl⟩, fun _ h => by cases h⟩
  · simp [Value.cells] at hcs
    obtain ⟨rfl, rfl, rfl⟩ := hcs
    have each : ∀ i, i < len0 → ∃ z : Int × Int, ((-9223372036854775808 ≤ z.1 ∧ z.1 ≤ 9223372036854775807) ∧ (-9223372036854775808 ≤ z.2 ∧ z.2 ≤ 9223372036854775807)) ∧ ∀ j c, ([.int .i64 z.1, .int .i64 z.2] : List Value)[j]? = some c → W.cell? ((a.add (i * 2)).add j) = some c := by
      intro i hi
      have hE := hel i hi
      rw [List.getElem?_eq_getElem (by omega), cells24, Option.bind_eq_some_iff] at hE
      obtain ⟨cs', hcs, hy'⟩ := hE
      obtain ⟨c0, c1, rfl, hc⟩ := cells_two hcs
      obtain ⟨x, y, rfl, rfl, bx, by'⟩ := cells_pt hy'
      exact ⟨(x, y), ⟨bx, by'⟩, fun j c h => hc j c h⟩
    obtain ⟨vs, hll, hq⟩ := choose_list (fun i (z : Int × Int) => ((-9223372036854775808 ≤ z.1 ∧ z.1 ≤ 9223372036854775807) ∧ (-9223372036854775808 ≤ z.2 ∧ z.2 ≤ 9223372036854775807)) ∧ ∀ j c, ([.int .i64 z.1, .int .i64 z.2] : List Value)[j]? = some c → W.cell? ((a.add (i * 2)).add j) = some c) len0 each
    unfold maxLen at hm
    refine ⟨vs, ⟨some a, cap0, by rw [hll], by rw [hll]; exact hl, by omega, ?_⟩, fun z hz => ?_⟩
    · rcases vs with _ | ⟨z0, vs⟩
      · exact .inl rfl
      · right
        obtain ⟨b, off, spot⟩ := a
        have hspot : spot = none := by simpa [Addr.add] using World.cell?_spot ((hq 0 z0 rfl).2 0 _ rfl)
        subst hspot
        refine ⟨b, off, rfl, fun i u hu => ?_⟩
        have k0 := (hq i u hu).2 0 _ rfl
        have k1 := (hq i u hu).2 1 _ rfl
        rw [add_plain, add_plain, Nat.add_zero] at k0
        rw [add_plain, add_plain] at k1
        exact ⟨k0, k1⟩
    · obtain ⟨i, hi⟩ := List.getElem?_of_mem hz
      exact (hq i z hi).1
set_option maxRecDepth 100000 in
theorem arg_ints {r : Reach} {b0 : Nat} {v : Value} {d : DataW H} {p : List MemPlace} (hv : Value.okWide Try.prog W r b0 22 v) (h : DataW.Trod enc Try.prog W 0 (fun _ => true) true 22 v d p) :
    ∃ xs : List Int, RowN W v xs := by
  obtain ⟨a0, len0, cap0, rfl⟩ := okWide_slice Try.underlying22 hv
  obtain ⟨m, hf⟩ := h
  rcases DataW.trod_slice Try.underlying22 hf with ⟨h0, _⟩ | ⟨a, len, cap, elems, rest, n, _, hcs, -, hb, hl, hm, hlen, hel, -, -⟩
  · simp [Value.cells] at h0
    obtain ⟨rfl, rfl, rfl⟩ := h0
    exact ⟨[], none, 0, rfl, by simp, by simp, .inl rfl⟩
  · simp [Value.cells] at hcs
    obtain ⟨rfl, rfl, rfl⟩ := hcs
    have each : ∀ i, i < len0 → ∃ z : Int, ∀ j c, ([.int .i64 z] : List Value)[j]? = some c → W.cell? ((a.add (i * Try.prog.cellsOf 3)).add j) = some c := by
      intro i hi
      have hE := hel i hi
      rw [List.getElem?_eq_getElem (by omega), Option.bind_eq_some_iff] at hE
      obtain ⟨cs', hcs, hy'⟩ := hE
      rw [cells3] at hcs
      obtain ⟨c0, rfl, hc⟩ := cells_one hcs
      obtain ⟨x, rfl, bx, by'⟩ := cell_int hy'
      rw [cells3]
      exact ⟨x, fun j c h => hc j c h⟩
    obtain ⟨vs, hll, hq⟩ := choose_list (fun i (z : Int) => ∀ j c, ([.int .i64 z] : List Value)[j]? = some c → W.cell? ((a.add (i * Try.prog.cellsOf 3)).add j) = some c) len0 each
    unfold maxLen at hm
    refine ⟨vs, some a, cap0, by rw [hll], by rw [hll]; exact hl, by omega, ?_⟩
    rcases vs with _ | ⟨z0, vs⟩
    · exact .inl rfl
    · right
      obtain ⟨b, off, spot⟩ := a
      have hspot : spot = none := by simpa [Addr.add] using World.cell?_spot (hq 0 z0 rfl 0 _ rfl)
      subst hspot
      refine ⟨b, off, rfl, fun i u hu => ?_⟩
      have k0 := hq i u hu 0 _ rfl
      rw [add_plain, add_plain, cells3, Nat.mul_one, Nat.add_zero] at k0
      exact k0
theorem cells_spot {m : Nat} {c0 c1 c2 : Value} {x : DataW H × List MemPlace} (h : DataW.trod enc Try.prog W 0 (fun _ => true) true m 39 [c0, c1, c2] = some x) :
    ∃ a b c : Int, c0 = .int .i64 a ∧ c1 = .int .i64 b ∧ c2 = .int .i64 c ∧ (-9223372036854775808 ≤ a ∧ a ≤ 9223372036854775807) ∧ (-9223372036854775808 ≤ b ∧ b ≤ 9223372036854775807) ∧ (-9223372036854775808 ≤ c ∧ c ≤ 9223372036854775807) := by
  obtain ⟨xs, n, _, _, _, hl, hi⟩ := DataW.trod_struct Try.underlying39 h
  obtain ⟨x0, e0⟩ := some_at (i := 0) hl (by decide)
  obtain ⟨x1, e1⟩ := some_at (i := 1) hl (by decide)
  obtain ⟨x2, e2⟩ := some_at (i := 2) hl (by decide)
  have h0 : DataW.trod enc Try.prog W 0 (fun _ => true) true n 3 (([c0, c1, c2].drop 0).take (Try.prog.cellsOf 3)) = xs[0]? := hi 0 _ rfl
  have h1 : DataW.trod enc Try.prog W 0 (fun _ => true) true n 3 (([c0, c1, c2].drop 1).take (Try.prog.cellsOf 3)) = xs[1]? := hi 1 _ rfl
  have h2 : DataW.trod enc Try.prog W 0 (fun _ => true) true n 3 (([c0, c1, c2].drop 2).take (Try.prog.cellsOf 3)) = xs[2]? := hi 2 _ rfl
  rw [cells3, e0] at h0
  rw [cells3, e1] at h1
  rw [cells3, e2] at h2
  obtain ⟨a, rfl, ba⟩ := cell_int h0
  obtain ⟨b, rfl, bb⟩ := cell_int h1
  obtain ⟨c, rfl, bc⟩ := cell_int h2
  exact ⟨a, b, c, rfl, rfl, rfl, ba, bb, bc⟩
section
variable {r : Reach} {b0 : Nat} {v : Value} {d : DataW H} {p : List MemPlace}
theorem arg_pt (hv : Value.okWide Try.prog W r b0 24 v) (h : DataW.Trod enc Try.prog W 0 (fun _ => true) true 24 v d p) : ∃ a b : Int, v = .agg #[.int .i64 a, .int .i64 b] ∧ (-9223372036854775808 ≤ a ∧ a ≤ 9223372036854775807) ∧ (-9223372036854775808 ≤ b ∧ b ≤ 9223372036854775807) := by
  obtain ⟨cs, rfl, hsz⟩ := okWide_struct Try.underlying24 hv
  obtain ⟨c0, c1, rfl⟩ := array_2 (hsz.trans cells24)
  obtain ⟨m, hf⟩ := h
  obtain ⟨a, b, rfl, rfl, ba, bb⟩ := cells_pt hf
  exact ⟨a, b, rfl, ba, bb⟩
theorem arg_u8 (hv : Value.okWide Try.prog W r b0 5 v) (h : DataW.Trod enc Try.prog W 0 (fun _ => true) true 5 v d p) : ∃ n : Int, v = .int .u8 n ∧ 0 ≤ n ∧ n ≤ 255 := by
  obtain ⟨z, rfl⟩ := okWide_int Try.underlying5 hv
  obtain ⟨m, hf⟩ := h
  exact cell_u8 hf
theorem arg_trip (hv : Value.okWide Try.prog W r b0 37 v) (h : DataW.Trod enc Try.prog W 0 (fun _ => true) true 37 v d p) :
    ∃ a0 a1 a2 a3 a4 a5 : Int, v = .agg #[.int .i64 a0, .int .i64 a1, .int .i64 a2, .int .i64 a3, .int .i64 a4, .int .i64 a5] ∧ (-9223372036854775808 ≤ a0 ∧ a0 ≤ 9223372036854775807) ∧ (-9223372036854775808 ≤ a1 ∧ a1 ≤ 9223372036854775807) ∧ (-9223372036854775808 ≤ a2 ∧ a2 ≤ 9223372036854775807) ∧ (-9223372036854775808 ≤ a3 ∧ a3 ≤ 9223372036854775807) ∧ (-9223372036854775808 ≤ a4 ∧ a4 ≤ 9223372036854775807) ∧ (-9223372036854775808 ≤ a5 ∧ a5 ≤ 9223372036854775807) := by
  obtain ⟨cs, rfl, hsz⟩ := okWide_array Try.underlying37 hv
  obtain ⟨c0, c1, c2, c3, c4, c5, rfl⟩ := array_6 (hsz.trans cells37)
  obtain ⟨fuel, hf⟩ := h
  obtain ⟨xs, m, _, _, _, hl, hi⟩ := DataW.trod_array Try.underlying37 hf
  simp only [Value.cells, cells24] at hi
  obtain ⟨x0, e0⟩ := some_at (i := 0) hl (by decide)
  have h0 := hi 0 (by omega)
  rw [e0] at h0
  obtain ⟨a0, a1, rfl, rfl, b0, b1⟩ := cells_pt h0
  obtain ⟨x1, e1⟩ := some_at (i := 1) hl (by decide)
  have h1 := hi 1 (by omega)
  rw [e1] at h1
  obtain ⟨a2, a3, rfl, rfl, b2, b3⟩ := cells_pt h1
  obtain ⟨x2, e2⟩ := some_at (i := 2) hl (by decide)
  have h2 := hi 2 (by omega)
  rw [e2] at h2
  obtain ⟨a4, a5, rfl, rfl, b4, b5⟩ := cells_pt h2
  exact ⟨a0, a1, a2, a3, a4, a5, rfl, b0, b1, b2, b3, b4, b5⟩
theorem arg_spots (hv : Value.okWide Try.prog W r b0 40 v) (h : DataW.Trod enc Try.prog W 0 (fun _ => true) true 40 v d p) :
    ∃ a0 a1 a2 a3 a4 a5 : Int, v = .agg #[.int .i64 a0, .int .i64 a1, .int .i64 a2, .int .i64 a3, .int .i64 a4, .int .i64 a5] ∧ (-9223372036854775808 ≤ a0 ∧ a0 ≤ 9223372036854775807) ∧ (-9223372036854775808 ≤ a1 ∧ a1 ≤ 9223372036854775807) ∧ (-9223372036854775808 ≤ a2 ∧ a2 ≤ 9223372036854775807) ∧ (-9223372036854775808 ≤ a3 ∧ a3 ≤ 9223372036854775807) ∧ (-9223372036854775808 ≤ a4 ∧ a4 ≤ 9223372036854775807) ∧ (-9223372036854775808 ≤ a5 ∧ a5 ≤ 9223372036854775807) := by
  obtain ⟨cs, rfl, hsz⟩ := okWide_array Try.underlying40 hv
  obtain ⟨c0, c1, c2, c3, c4, c5, rfl⟩ := array_6 (hsz.trans cells40)
  obtain ⟨fuel, hf⟩ := h
  obtain ⟨xs, m, _, _, _, hl, hi⟩ := DataW.trod_array Try.underlying40 hf
  simp only [Value.cells, cells39] at hi
  obtain ⟨x0, e0⟩ := some_at (i := 0) hl (by decide)
  have h0 := hi 0 (by omega)
  rw [e0] at h0
  obtain ⟨a0, a1, a2, rfl, rfl, rfl, b0, b1, b2⟩ := cells_spot h0
  obtain ⟨x1, e1⟩ := some_at (i := 1) hl (by decide)
  have h1 := hi 1 (by omega)
  rw [e1] at h1
  obtain ⟨a3, a4, a5, rfl, rfl, rfl, b3, b4, b5⟩ := cells_spot h1
  exact ⟨a0, a1, a2, a3, a4, a5, rfl, b0, b1, b2, b3, b4, b5⟩
theorem arg_pair (hv : Value.okWide Try.prog W r b0 44 v) (h : DataW.Trod enc Try.prog W 0 (fun _ => true) true 44 v d p) :
    ∃ a0 a1 : Int, v = .agg #[.int .u8 a0, .int .u8 a1] ∧ (0 ≤ a0 ∧ a0 ≤ 255) ∧ (0 ≤ a1 ∧ a1 ≤ 255) := by
  obtain ⟨cs, rfl, hsz⟩ := okWide_array Try.underlying44 hv
  obtain ⟨c0, c1, rfl⟩ := array_2 (hsz.trans cells44)
  obtain ⟨fuel, hf⟩ := h
  obtain ⟨xs, m, _, _, _, hl, hi⟩ := DataW.trod_array Try.underlying44 hf
  simp only [Value.cells, cells5] at hi
  obtain ⟨x0, e0⟩ := some_at (i := 0) hl (by decide)
  obtain ⟨x1, e1⟩ := some_at (i := 1) hl (by decide)
  have h0 := hi 0 (by omega)
  have h1 := hi 1 (by omega)
  rw [e0] at h0
  rw [e1] at h1
  obtain ⟨a0, rfl, b0⟩ := cell_u8 h0
  obtain ⟨a1, rfl, b1⟩ := cell_u8 h1
  exact ⟨a0, a1, rfl, b0, b1⟩
theorem arg_change (hv : Value.okWide Try.prog W r b0 48 v) (h : DataW.Trod enc Try.prog W 0 (fun _ => true) true 48 v d p) :
    ∃ (m : Bool) (a1 a2 a3 a4 : Int), v = .agg #[.bool m, .int .u8 a1, .int .i64 a2, .int .i64 a3, .int .u8 a4] ∧ (0 ≤ a1 ∧ a1 ≤ 255) ∧ (0 ≤ a4 ∧ a4 ≤ 255) ∧ (-9223372036854775808 ≤ a2 ∧ a2 ≤ 9223372036854775807) ∧ (-9223372036854775808 ≤ a3 ∧ a3 ≤ 9223372036854775807) := by
  obtain ⟨cs, rfl, hsz⟩ := okWide_struct Try.underlying48 hv
  obtain ⟨c0, c1, c2, c3, c4, rfl⟩ := array_5 (hsz.trans cells48)
  obtain ⟨fuel, hf⟩ := h
  obtain ⟨xs, n, _, _, _, hl, hi⟩ := DataW.trod_struct Try.underlying48 hf
  obtain ⟨x0, e0⟩ := some_at (i := 0) hl (by decide)
  obtain ⟨x1, e1⟩ := some_at (i := 1) hl (by decide)
  obtain ⟨x2, e2⟩ := some_at (i := 2) hl (by decide)
  obtain ⟨x3, e3⟩ := some_at (i := 3) hl (by decide)
  have h0 : DataW.trod enc Try.prog W 0 (fun _ => true) true n 4 (([c0, c1, c2, c3, c4].drop 0).take (Try.prog.cellsOf 4)) = xs[0]? := hi 0 _ rfl
  have h1 : DataW.trod enc Try.prog W 0 (fun _ => true) true n 5 (([c0, c1, c2, c3, c4].drop 1).take (Try.prog.cellsOf 5)) = xs[1]? := hi 1 _ rfl
  have h2 : DataW.trod enc Try.prog W 0 (fun _ => true) true n 24 (([c0, c1, c2, c3, c4].drop 2).take (Try.prog.cellsOf 24)) = xs[2]? := hi 2 _ rfl
  have h3 : DataW.trod enc Try.prog W 0 (fun _ => true) true n 5 (([c0, c1, c2, c3, c4].drop 4).take (Try.prog.cellsOf 5)) = xs[3]? := hi 3 _ rfl
  rw [cells4, e0] at h0
  rw [cells5, e1] at h1
  rw [cells24, e2] at h2
  rw [cells5, e3] at h3
  obtain ⟨m, rfl⟩ := cell_bool h0
  obtain ⟨a1, rfl, b1⟩ := cell_u8 h1
  obtain ⟨a2, a3, rfl, rfl, b2, b3⟩ := cells_pt h2
  obtain ⟨a4, rfl, b4⟩ := cell_u8 h3
  exact ⟨m, a1, a2, a3, a4, rfl, b1, b4, b2, b3⟩
end
end
end Go.Proofs.Ytmldgjhecoeldaa
