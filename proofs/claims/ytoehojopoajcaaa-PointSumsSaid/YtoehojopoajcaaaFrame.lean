/- How the arguments of the point laws read as data. -/
import Derived.Test.YtoehojopoajcaaaBase
import Derived.ProofKit
import Derived.OpenShut
import Derived.MakeChecks
import Derived.Lib.SmallJoins
namespace Go.Proofs.Ytoehojopoajcaaa
open Go.ChangeShapes Go.WideShapes Go.ChangeAt Go.RowKit Go.Joins

set_option maxRecDepth 100000
theorem own : ownKnob Try.prog.godebug = none := by kernel_rfl
theorem laidOut : laidOutB Try.prog = true := by kernel_rfl
theorem cells3 : Try.prog.cellsOf 3 = 1 := by kernel_rfl
theorem cells5 : Try.prog.cellsOf 5 = 1 := by kernel_rfl
theorem cells24 : Try.prog.cellsOf 24 = 4 := by kernel_rfl
theorem cells25 : Try.prog.cellsOf 25 = 8 := by kernel_rfl
theorem cells28 : Try.prog.cellsOf 28 = 2 := by kernel_rfl
theorem cells34 : Try.prog.cellsOf 34 = 3 := by kernel_rfl
theorem cells39 : Try.prog.cellsOf 39 = 8 := by kernel_rfl
theorem cells50 : Try.prog.cellsOf 50 = 2 := by kernel_rfl
theorem cells52 : Try.prog.cellsOf 52 = 8 := by kernel_rfl
theorem okWide_array {P : Program} {w : World} {r : Reach} {base : Nat} {t : TypeId} {v : Value} {n : Nat} {e : TypeId} (ht : P.underlying t = some (.array n e)) (h : Value.okWide P w r base t v) : ∃ cs, v = .agg cs ∧ cs.size = P.cellsOf t := by
  simp only [Value.okWide, ht] at h
  obtain ⟨cs, h1, h2, _⟩ := h
  exact ⟨cs, h1, h2⟩
theorem array_2 {α : Type} {cs : Array α} (h : cs.size = 2) : ∃ c0 c1, cs = #[c0, c1] := by
  obtain ⟨l⟩ := cs
  match l, h with
  | [c0, c1], _ => exact ⟨c0, c1, rfl⟩
theorem array_3 {α : Type} {cs : Array α} (h : cs.size = 3) : ∃ c0 c1 c2, cs = #[c0, c1, c2] := by
  obtain ⟨l⟩ := cs
  match l, h with
  | [c0, c1, c2], _ => exact ⟨c0, c1, c2, rfl⟩
theorem array_8 {α : Type} {cs : Array α} (h : cs.size = 8) : ∃ c0 c1 c2 c3 c4 c5 c6 c7, cs = #[c0, c1, c2, c3, c4, c5, c6, c7] := by
  obtain ⟨l⟩ := cs
  match l, h with
  | [c0, c1, c2, c3, c4, c5, c6, c7], _ => exact ⟨c0, c1, c2, c3, c4, c5, c6, c7, rfl⟩

section
variable {H : Type} {enc : TypeId × Value → H} {W : World}

theorem cell_num {m : Nat} {c : Value} {x : DataW H × List MemPlace} (h : DataW.trod enc Try.prog W 0 (fun _ => true) true m 3 [c] = some x) : ∃ z, c = .int .i64 z := by
  obtain ⟨z, hz, _, wf⟩ := DataW.trod_int Try.underlying3 h
  simp at hz
  exact ⟨z, hz⟩
theorem cell_u8 {m : Nat} {c : Value} {x : DataW H × List MemPlace} (h : DataW.trod enc Try.prog W 0 (fun _ => true) true m 5 [c] = some x) : ∃ z : Int, c = .int .u8 z ∧ 0 ≤ z ∧ z ≤ 255 := by
  obtain ⟨z, hz, _, wf⟩ := DataW.trod_int Try.underlying5 h
  simp at hz
  simp [Lit.wf, IntKind.min, IntKind.max, IntKind.bits, IntKind.signed] at wf
  exact ⟨z, hz, by omega, by omega⟩
theorem some_at {α : Type} {xs : List α} {n i : Nat} (hl : xs.length = n) (hi : i < n) : ∃ x, xs[i]? = some x := ⟨_, List.getElem?_eq_getElem (by omega)⟩
theorem cells_point {m : Nat} {c0 c1 : Value} {x : DataW H × List MemPlace} (h : DataW.trod enc Try.prog W 0 (fun _ => true) true m 28 [c0, c1] = some x) : ∃ a b : Int, c0 = .int .i64 a ∧ c1 = .int .i64 b := by
  obtain ⟨xs, n, _, _, _, hl, hi⟩ := DataW.trod_struct Try.underlying28 h
  obtain ⟨x0, e0⟩ := some_at (i := 0) hl (by decide)
  obtain ⟨x1, e1⟩ := some_at (i := 1) hl (by decide)
  have h0 : DataW.trod enc Try.prog W 0 (fun _ => true) true n 3 (([c0, c1].drop 0).take (Try.prog.cellsOf 3)) = xs[0]? := hi 0 _ rfl
  have h1 : DataW.trod enc Try.prog W 0 (fun _ => true) true n 3 (([c0, c1].drop 1).take (Try.prog.cellsOf 3)) = xs[1]? := hi 1 _ rfl
  rw [cells3, e0] at h0
  rw [cells3, e1] at h1
  obtain ⟨a, rfl⟩ := cell_num h0
  obtain ⟨b, rfl⟩ := cell_num h1
  exact ⟨a, b, rfl, rfl⟩
theorem cells_ratio {m : Nat} {c0 c1 : Value} {x : DataW H × List MemPlace} (h : DataW.trod enc Try.prog W 0 (fun _ => true) true m 50 [c0, c1] = some x) : ∃ a b : Int, c0 = .int .i64 a ∧ c1 = .int .i64 b := by
  obtain ⟨xs, n, _, _, _, hl, hi⟩ := DataW.trod_struct Try.underlying50 h
  obtain ⟨x0, e0⟩ := some_at (i := 0) hl (by decide)
  obtain ⟨x1, e1⟩ := some_at (i := 1) hl (by decide)
  have h0 : DataW.trod enc Try.prog W 0 (fun _ => true) true n 3 (([c0, c1].drop 0).take (Try.prog.cellsOf 3)) = xs[0]? := hi 0 _ rfl
  have h1 : DataW.trod enc Try.prog W 0 (fun _ => true) true n 3 (([c0, c1].drop 1).take (Try.prog.cellsOf 3)) = xs[1]? := hi 1 _ rfl
  rw [cells3, e0] at h0
  rw [cells3, e1] at h1
  obtain ⟨a, rfl⟩ := cell_num h0
  obtain ⟨b, rfl⟩ := cell_num h1
  exact ⟨a, b, rfl, rfl⟩
theorem cells_spot {m : Nat} {c0 c1 c2 : Value} {x : DataW H × List MemPlace} (h : DataW.trod enc Try.prog W 0 (fun _ => true) true m 34 [c0, c1, c2] = some x) : ∃ a b d : Int, c0 = .int .i64 a ∧ c1 = .int .i64 b ∧ c2 = .int .i64 d := by
  obtain ⟨xs, n, _, _, _, hl, hi⟩ := DataW.trod_struct Try.underlying34 h
  obtain ⟨x0, e0⟩ := some_at (i := 0) hl (by decide)
  obtain ⟨x1, e1⟩ := some_at (i := 1) hl (by decide)
  obtain ⟨x2, e2⟩ := some_at (i := 2) hl (by decide)
  have h0 : DataW.trod enc Try.prog W 0 (fun _ => true) true n 3 (([c0, c1, c2].drop 0).take (Try.prog.cellsOf 3)) = xs[0]? := hi 0 _ rfl
  have h1 : DataW.trod enc Try.prog W 0 (fun _ => true) true n 3 (([c0, c1, c2].drop 1).take (Try.prog.cellsOf 3)) = xs[1]? := hi 1 _ rfl
  have h2 : DataW.trod enc Try.prog W 0 (fun _ => true) true n 3 (([c0, c1, c2].drop 2).take (Try.prog.cellsOf 3)) = xs[2]? := hi 2 _ rfl
  rw [cells3, e0] at h0
  rw [cells3, e1] at h1
  rw [cells3, e2] at h2
  obtain ⟨a, rfl⟩ := cell_num h0
  obtain ⟨b, rfl⟩ := cell_num h1
  obtain ⟨d, rfl⟩ := cell_num h2
  exact ⟨a, b, d, rfl, rfl, rfl⟩
theorem cells_rect {m : Nat} {c0 c1 c2 c3 : Value} {x : DataW H × List MemPlace} (h : DataW.trod enc Try.prog W 0 (fun _ => true) true m 24 [c0, c1, c2, c3] = some x) : ∃ a b d e : Int, c0 = .int .i64 a ∧ c1 = .int .i64 b ∧ c2 = .int .i64 d ∧ c3 = .int .i64 e := by
  obtain ⟨xs, n, _, _, _, hl, hi⟩ := DataW.trod_struct Try.underlying24 h
  obtain ⟨x0, e0⟩ := some_at (i := 0) hl (by decide)
  obtain ⟨x1, e1⟩ := some_at (i := 1) hl (by decide)
  obtain ⟨x2, e2⟩ := some_at (i := 2) hl (by decide)
  obtain ⟨x3, e3⟩ := some_at (i := 3) hl (by decide)
  have h0 : DataW.trod enc Try.prog W 0 (fun _ => true) true n 3 (([c0, c1, c2, c3].drop 0).take (Try.prog.cellsOf 3)) = xs[0]? := hi 0 _ rfl
  have h1 : DataW.trod enc Try.prog W 0 (fun _ => true) true n 3 (([c0, c1, c2, c3].drop 1).take (Try.prog.cellsOf 3)) = xs[1]? := hi 1 _ rfl
  have h2 : DataW.trod enc Try.prog W 0 (fun _ => true) true n 3 (([c0, c1, c2, c3].drop 2).take (Try.prog.cellsOf 3)) = xs[2]? := hi 2 _ rfl
  have h3 : DataW.trod enc Try.prog W 0 (fun _ => true) true n 3 (([c0, c1, c2, c3].drop 3).take (Try.prog.cellsOf 3)) = xs[3]? := hi 3 _ rfl
  rw [cells3, e0] at h0
  rw [cells3, e1] at h1
  rw [cells3, e2] at h2
  rw [cells3, e3] at h3
  obtain ⟨a, rfl⟩ := cell_num h0
  obtain ⟨b, rfl⟩ := cell_num h1
  obtain ⟨d, rfl⟩ := cell_num h2
  obtain ⟨e, rfl⟩ := cell_num h3
  exact ⟨a, b, d, e, rfl, rfl, rfl, rfl⟩

section
variable {r : Reach} {b0 : Nat} {v : Value} {d : DataW H} {p : List MemPlace}
theorem arg_u8 (hv : Value.okWide Try.prog W r b0 5 v) (h : DataW.Trod enc Try.prog W 0 (fun _ => true) true 5 v d p) : ∃ n : Int, v = .int .u8 n ∧ 0 ≤ n ∧ n ≤ 255 := by
  obtain ⟨z, rfl⟩ := okWide_int Try.underlying5 hv
  obtain ⟨m, hf⟩ := h
  exact cell_u8 hf
theorem arg_num (hv : Value.okWide Try.prog W r b0 3 v) (_h : DataW.Trod enc Try.prog W 0 (fun _ => true) true 3 v d p) : ∃ n : Int, v = .int .i64 n := okWide_int Try.underlying3 hv
/-- A point, by value. -/
theorem arg_pt (hv : Value.okWide Try.prog W r b0 28 v) (h : DataW.Trod enc Try.prog W 0 (fun _ => true) true 28 v d p) : ∃ a b : Int, v = .agg #[.int .i64 a, .int .i64 b] := by
  obtain ⟨cs, rfl, hsz⟩ := okWide_struct Try.underlying28 hv
  obtain ⟨c0, c1, rfl⟩ := array_2 (hsz.trans cells28)
  obtain ⟨m, hf⟩ := h
  obtain ⟨a, b, rfl, rfl⟩ := cells_point hf
  exact ⟨a, b, rfl⟩
/-- A spot, by value. -/
theorem arg_spot (hv : Value.okWide Try.prog W r b0 34 v) (h : DataW.Trod enc Try.prog W 0 (fun _ => true) true 34 v d p) : ∃ a b e : Int, v = .agg #[.int .i64 a, .int .i64 b, .int .i64 e] := by
  obtain ⟨cs, rfl, hsz⟩ := okWide_struct Try.underlying34 hv
  obtain ⟨c0, c1, c2, rfl⟩ := array_3 (hsz.trans cells34)
  obtain ⟨m, hf⟩ := h
  obtain ⟨a, b, e, rfl, rfl, rfl⟩ := cells_spot hf
  exact ⟨a, b, e, rfl⟩
/-- Four points, by value. -/
theorem arg_four (hv : Value.okWide Try.prog W r b0 39 v) (h : DataW.Trod enc Try.prog W 0 (fun _ => true) true 39 v d p) :
    ∃ a0 a1 a2 a3 a4 a5 a6 a7 : Int, v = .agg #[.int .i64 a0, .int .i64 a1, .int .i64 a2, .int .i64 a3, .int .i64 a4, .int .i64 a5, .int .i64 a6, .int .i64 a7] := by
  obtain ⟨cs, rfl, hsz⟩ := okWide_array Try.underlying39 hv
  obtain ⟨c0, c1, c2, c3, c4, c5, c6, c7, rfl⟩ := array_8 (hsz.trans cells39)
  obtain ⟨fuel, hf⟩ := h
  obtain ⟨xs, m, _, _, _, hl, hi⟩ := DataW.trod_array Try.underlying39 hf
  simp only [Value.cells, cells28] at hi
  have get : ∀ i, i < 4 → ∃ x, xs[i]? = some x := fun i hi => ⟨_, List.getElem?_eq_getElem (by omega)⟩
  obtain ⟨x0, e0⟩ := get 0 (by omega)
  obtain ⟨x1, e1⟩ := get 1 (by omega)
  obtain ⟨x2, e2⟩ := get 2 (by omega)
  obtain ⟨x3, e3⟩ := get 3 (by omega)
  have h0 := hi 0 (by omega)
  have h1 := hi 1 (by omega)
  have h2 := hi 2 (by omega)
  have h3 := hi 3 (by omega)
  rw [e0] at h0
  rw [e1] at h1
  rw [e2] at h2
  rw [e3] at h3
  obtain ⟨a0, a1, rfl, rfl⟩ := cells_point h0
  obtain ⟨a2, a3, rfl, rfl⟩ := cells_point h1
  obtain ⟨a4, a5, rfl, rfl⟩ := cells_point h2
  obtain ⟨a6, a7, rfl, rfl⟩ := cells_point h3
  exact ⟨a0, a1, a2, a3, a4, a5, a6, a7, rfl⟩
/-- Two rectangles, by value. -/
theorem arg_rects (hv : Value.okWide Try.prog W r b0 25 v) (h : DataW.Trod enc Try.prog W 0 (fun _ => true) true 25 v d p) :
    ∃ a0 a1 a2 a3 a4 a5 a6 a7 : Int, v = .agg #[.int .i64 a0, .int .i64 a1, .int .i64 a2, .int .i64 a3, .int .i64 a4, .int .i64 a5, .int .i64 a6, .int .i64 a7] := by
  obtain ⟨cs, rfl, hsz⟩ := okWide_array Try.underlying25 hv
  obtain ⟨c0, c1, c2, c3, c4, c5, c6, c7, rfl⟩ := array_8 (hsz.trans cells25)
  obtain ⟨fuel, hf⟩ := h
  obtain ⟨xs, m, _, _, _, hl, hi⟩ := DataW.trod_array Try.underlying25 hf
  simp only [Value.cells, cells24] at hi
  have get : ∀ i, i < 2 → ∃ x, xs[i]? = some x := fun i hi => ⟨_, List.getElem?_eq_getElem (by omega)⟩
  obtain ⟨x0, e0⟩ := get 0 (by omega)
  obtain ⟨x1, e1⟩ := get 1 (by omega)
  have h0 := hi 0 (by omega)
  have h1 := hi 1 (by omega)
  rw [e0] at h0
  rw [e1] at h1
  obtain ⟨a0, a1, a2, a3, rfl, rfl, rfl, rfl⟩ := cells_rect h0
  obtain ⟨a4, a5, a6, a7, rfl, rfl, rfl, rfl⟩ := cells_rect h1
  exact ⟨a0, a1, a2, a3, a4, a5, a6, a7, rfl⟩
/-- Two spots with a ratio, by value. -/
theorem arg_mover (hv : Value.okWide Try.prog W r b0 52 v) (h : DataW.Trod enc Try.prog W 0 (fun _ => true) true 52 v d p) :
    ∃ a0 a1 a2 a3 a4 a5 a6 a7 : Int, v = .agg #[.int .i64 a0, .int .i64 a1, .int .i64 a2, .int .i64 a3, .int .i64 a4, .int .i64 a5, .int .i64 a6, .int .i64 a7] := by
  obtain ⟨cs, rfl, hsz⟩ := okWide_struct Try.underlying52 hv
  obtain ⟨c0, c1, c2, c3, c4, c5, c6, c7, rfl⟩ := array_8 (hsz.trans cells52)
  obtain ⟨fuel, hf⟩ := h
  obtain ⟨xs, n, _, _, _, hl, hi⟩ := DataW.trod_struct Try.underlying52 hf
  obtain ⟨x0, e0⟩ := some_at (i := 0) hl (by decide)
  obtain ⟨x1, e1⟩ := some_at (i := 1) hl (by decide)
  obtain ⟨x2, e2⟩ := some_at (i := 2) hl (by decide)
  have h0 : DataW.trod enc Try.prog W 0 (fun _ => true) true n 34 (([c0, c1, c2, c3, c4, c5, c6, c7].drop 0).take (Try.prog.cellsOf 34)) = xs[0]? := hi 0 _ rfl
  have h1 : DataW.trod enc Try.prog W 0 (fun _ => true) true n 34 (([c0, c1, c2, c3, c4, c5, c6, c7].drop 3).take (Try.prog.cellsOf 34)) = xs[1]? := hi 1 _ rfl
  have h2 : DataW.trod enc Try.prog W 0 (fun _ => true) true n 50 (([c0, c1, c2, c3, c4, c5, c6, c7].drop 6).take (Try.prog.cellsOf 50)) = xs[2]? := hi 2 _ rfl
  rw [cells34, e0] at h0
  rw [cells34, e1] at h1
  rw [cells50, e2] at h2
  obtain ⟨a0, a1, a2, rfl, rfl, rfl⟩ := cells_spot h0
  obtain ⟨a3, a4, a5, rfl, rfl, rfl⟩ := cells_spot h1
  obtain ⟨a6, a7, rfl, rfl⟩ := cells_ratio h2
  exact ⟨a0, a1, a2, a3, a4, a5, a6, a7, rfl⟩
end
end
end Go.Proofs.Ytoehojopoajcaaa
