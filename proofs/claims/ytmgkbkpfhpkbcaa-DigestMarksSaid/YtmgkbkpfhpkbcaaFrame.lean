/- How the arguments of the digest laws read as data. -/
import Derived.Test.YtmgkbkpfhpkbcaaBase
import Derived.ProofKit
import Derived.OpenShut
import Derived.MakeChecks
import Derived.SliceStrings
import Derived.Lib.SmallJoins
namespace Go.Proofs.Ytmgkbkpfhpkbcaa
open Go.ChangeShapes Go.WideShapes Go.ChangeAt Go.RowKit Go.Joins

set_option maxRecDepth 100000
theorem own : ownKnob Try.prog.godebug = none := by kernel_rfl
theorem laidOut : laidOutB Try.prog = true := by kernel_rfl
theorem cells3 : Try.prog.cellsOf 3 = 1 := by kernel_rfl
theorem cells5 : Try.prog.cellsOf 5 = 1 := by kernel_rfl
theorem cells9 : Try.prog.cellsOf 9 = 1 := by kernel_rfl
theorem cells28 : Try.prog.cellsOf 28 = 1 := by kernel_rfl
theorem cells27 : Try.prog.cellsOf 27 = 3 := by kernel_rfl
theorem cells41 : Try.prog.cellsOf 41 = 2 := by kernel_rfl
theorem cells43 : Try.prog.cellsOf 43 = 2 := by kernel_rfl
theorem okWide_array {P : Program} {w : World} {r : Reach} {base : Nat} {t : TypeId} {v : Value} {n : Nat} {e : TypeId} (ht : P.underlying t = some (.array n e)) (h : Value.okWide P w r base t v) : ∃ cs, v = .agg cs ∧ cs.size = P.cellsOf t := by
  simp only [Value.okWide, ht] at h
  obtain ⟨cs, h1, h2, _⟩ := h
  exact ⟨cs, h1, h2⟩

section
variable {H : Type} {enc : TypeId × Value → H} {W : World}

theorem choose_list {α : Type} (Q : Nat → α → Prop) : ∀ (k : Nat), (∀ i, i < k → ∃ z, Q i z) → ∃ l : List α, l.length = k ∧ ∀ i z, l[i]? = some z → Q i z := by
  intro k
  induction k with
  | zero => intro _; exact ⟨[], rfl, fun i z h => by simp at h⟩
  | succ k ih =>
    intro h
    obtain ⟨l, hl, hq⟩ := ih fun i hi => h i (by omega)
    obtain ⟨z, hz⟩ := h k (by omega)
    refine ⟨l ++ [z], by simp [hl], fun i x hx => ?_⟩
    rcases Nat.lt_or_ge i k with hi | hi
    · rw [List.getElem?_append_left (by omega)] at hx
      exact hq i x hx
    · rw [List.getElem?_append_right (by omega)] at hx
      have e : i = k := by
        rcases Nat.lt_or_ge k i with h2 | h2
        · rw [List.getElem?_eq_none (by simp; omega)] at hx; cases hx
        · omega
      subst e
      simp [hl] at hx
      subst hx; exact hz

/-- A cell that reads as a slice of one-cell elements. -/
theorem cell_row {α : Type} (f : α → Value) (good : α → Prop) {t e : TypeId} {m : Nat} {c : Value} {x : DataW H × List MemPlace} (ht : Try.prog.underlying t = some (.slice e)) (hc : Try.prog.cellsOf e = 1)
    (step : ∀ (n : Nat) (u : Value) (y : DataW H × List MemPlace), DataW.trod enc Try.prog W 0 (fun _ => true) true n e [u] = some y → ∃ z, u = f z ∧ good z)
    (h : DataW.trod enc Try.prog W 0 (fun _ => true) true m t [c] = some x) : ∃ l : List α, Row W c (l.map f) ∧ (∀ z ∈ l, good z) ∧ (l.length : Int) ≤ 9223372036854775807 := by
  rcases DataW.trod_slice ht h with ⟨h0, _⟩ | ⟨a, len, cap, elems, rest, n, _, hcs, -, hb, hl, hm, hlen, hel, -, -⟩
  · simp at h0
    subst h0
    exact ⟨[], Row.nil _, by simp, by simp⟩
  · simp at hcs
    subst hcs
    have each : ∀ i, i < len → ∃ z, good z ∧ W.cell? (a.add i) = some (f z) := by
      intro i hi
      have hE := hel i hi
      rw [List.getElem?_eq_getElem (by omega), hc, Nat.mul_one, Option.bind_eq_some_iff] at hE
      obtain ⟨cs', hcs, hy'⟩ := hE
      have : ∃ u, cs' = [u] := by
        have hlen1 : cs'.length = 1 := by
          unfold World.cells? at hcs
          split at hcs
          · simpa using Lib.mapM_length hcs
          · cases hcs
        match cs', hlen1 with
        | [u], _ => exact ⟨u, rfl⟩
      obtain ⟨u, rfl⟩ := this
      obtain ⟨z, rfl, hz⟩ := step n u _ hy'
      exact ⟨z, hz, cell_of_cells?_one hcs⟩
    obtain ⟨l, hll, hq⟩ := choose_list (fun i z => good z ∧ W.cell? (a.add i) = some (f z)) len each
    unfold maxLen at hm
    refine ⟨l, ⟨some a, cap, by simp [hll], by simp [hll, hl], by omega, ?_⟩, fun z hz => ?_, by omega⟩
    · rcases l with _ | ⟨z0, l⟩
      · exact .inl rfl
      · right
        obtain ⟨b, off, spot⟩ := a
        have hspot : spot = none := by simpa [Addr.add] using World.cell?_spot (hq 0 z0 rfl).2
        subst hspot
        refine ⟨b, off, rfl, fun i u hu => ?_⟩
        rw [List.getElem?_map] at hu
        cases hz : (z0 :: l)[i]? with
        | none => rw [hz] at hu; cases hu
        | some z =>
          rw [hz] at hu
          obtain rfl := Option.some.inj hu
          rw [← add_plain]; exact (hq i z hz).2
    · obtain ⟨i, hi⟩ := List.getElem?_of_mem hz
      exact (hq i z hi).1

theorem cell_num {m : Nat} {c : Value} {x : DataW H × List MemPlace} (h : DataW.trod enc Try.prog W 0 (fun _ => true) true m 3 [c] = some x) : ∃ z, c = .int .i64 z := by
  obtain ⟨z, hz, _, wf⟩ := DataW.trod_int Try.underlying3 h
  simp at hz
  exact ⟨z, hz⟩
theorem cell_u8 {m : Nat} {c : Value} {x : DataW H × List MemPlace} (h : DataW.trod enc Try.prog W 0 (fun _ => true) true m 5 [c] = some x) : ∃ z : Nat, c = .int .u8 (z : Int) ∧ z < 256 := by
  obtain ⟨z, hz, _, wf⟩ := DataW.trod_int Try.underlying5 h
  simp at hz
  simp [Lit.wf, IntKind.min, IntKind.max, IntKind.bits, IntKind.signed] at wf
  refine ⟨z.toNat, ?_, by omega⟩
  rw [hz, Int.toNat_of_nonneg (by omega)]
theorem cell_text {m : Nat} {c : Value} {x : DataW H × List MemPlace} (h : DataW.trod enc Try.prog W 0 (fun _ => true) true m 9 [c] = some x) : ∃ s : List UInt8, c = str s ∧ (s.length : Int) ≤ 9223372036854775807 := by
  obtain ⟨s, hs, _, hb⟩ := DataW.trod_string Try.underlying9 h
  simp at hs
  unfold maxLen at hb
  refine ⟨s.data.toList, hs, ?_⟩
  have e : s.data.toList.length = s.size := rfl
  rw [e]
  exact Int.ofNat_le.2 hb
theorem cell_strs {m : Nat} {c : Value} {x : DataW H × List MemPlace} (h : DataW.trod enc Try.prog W 0 (fun _ => true) true m 28 [c] = some x) :
    ∃ l : List (List UInt8), Row W c (strs l) ∧ (∀ z ∈ l, (z.length : Int) ≤ 9223372036854775807) ∧ (l.length : Int) ≤ 9223372036854775807 :=
  cell_row str (fun s => (s.length : Int) ≤ 9223372036854775807) Try.underlying28 cells9 (fun _ _ _ h => cell_text h) h

section
variable {r : Reach} {b0 : Nat} {v : Value} {d : DataW H} {p : List MemPlace}
theorem arg_strs (hv : Value.okWide Try.prog W r b0 28 v) (h : DataW.Trod enc Try.prog W 0 (fun _ => true) true 28 v d p) :
    ∃ l : List (List UInt8), Row W v (strs l) ∧ ∀ z ∈ l, (z.length : Int) ≤ 9223372036854775807 := by
  obtain ⟨a, len, cap, rfl⟩ := okWide_slice Try.underlying28 hv
  obtain ⟨m, hf⟩ := h
  obtain ⟨l, h1, h2, -⟩ := cell_strs hf
  exact ⟨l, h1, h2⟩
theorem arg_text (hv : Value.okWide Try.prog W r b0 9 v) (h : DataW.Trod enc Try.prog W 0 (fun _ => true) true 9 v d p) :
    ∃ s : List UInt8, v = str s ∧ (s.length : Int) ≤ 9223372036854775807 := by
  obtain ⟨s, rfl⟩ := okWide_string Try.underlying9 hv
  obtain ⟨m, hf⟩ := h
  exact cell_text hf
theorem arg_u8 (hv : Value.okWide Try.prog W r b0 5 v) (h : DataW.Trod enc Try.prog W 0 (fun _ => true) true 5 v d p) : ∃ n : Nat, v = .int .u8 (n : Int) ∧ n < 256 := by
  obtain ⟨z, rfl⟩ := okWide_int Try.underlying5 hv
  obtain ⟨m, hf⟩ := h
  exact cell_u8 hf
theorem arg_num (hv : Value.okWide Try.prog W r b0 3 v) (_h : DataW.Trod enc Try.prog W 0 (fun _ => true) true 3 v d p) : ∃ n : Int, v = .int .i64 n := okWide_int Try.underlying3 hv
theorem arg_u16 (hv : Value.okWide Try.prog W r b0 31 v) (h : DataW.Trod enc Try.prog W 0 (fun _ => true) true 31 v d p) : ∃ n : Nat, v = .int .u16 (n : Int) ∧ n < 65536 := by
  obtain ⟨z, rfl⟩ := okWide_int Try.underlying31 hv
  obtain ⟨m, hf⟩ := h
  obtain ⟨y, hy, _, wf⟩ := DataW.trod_int Try.underlying31 hf
  simp [Value.cells] at hy
  subst hy
  simp [Lit.wf, IntKind.min, IntKind.max, IntKind.bits, IntKind.signed] at wf
  refine ⟨z.toNat, ?_, by omega⟩
  rw [Int.toNat_of_nonneg (by omega)]
theorem array3' {α : Type} {cs : Array α} (h : cs.size = 3) : ∃ c0 c1 c2, cs = #[c0, c1, c2] := by
  obtain ⟨l⟩ := cs
  match l, h with
  | [c0, c1, c2], _ => exact ⟨c0, c1, c2, rfl⟩
/-- A string, a place and a byte, by value. -/
theorem arg_other (hv : Value.okWide Try.prog W r b0 27 v) (h : DataW.Trod enc Try.prog W 0 (fun _ => true) true 27 v d p) :
    ∃ (s : List UInt8) (a c : Nat), v = .agg #[str s, .int .u8 (a : Int), .int .u8 (c : Int)] ∧ (s.length : Int) ≤ 9223372036854775807 ∧ a < 256 ∧ c < 256 := by
  obtain ⟨cs, rfl, hsz⟩ := okWide_struct Try.underlying27 hv
  obtain ⟨c0, c1, c2, rfl⟩ := array3' (hsz.trans cells27)
  obtain ⟨fuel, hf⟩ := h
  obtain ⟨xs, n, _, _, _, hl, hi⟩ := DataW.trod_struct Try.underlying27 hf
  have get : ∀ i, i < 3 → ∃ x, xs[i]? = some x := fun i hi => ⟨_, List.getElem?_eq_getElem (by rw [hl]; exact hi)⟩
  obtain ⟨x0, e0⟩ := get 0 (by omega)
  obtain ⟨x1, e1⟩ := get 1 (by omega)
  obtain ⟨x2, e2⟩ := get 2 (by omega)
  have h0 : DataW.trod enc Try.prog W 0 (fun _ => true) true n 9 (([c0, c1, c2].drop 0).take (Try.prog.cellsOf 9)) = xs[0]? := hi 0 _ rfl
  have h1 : DataW.trod enc Try.prog W 0 (fun _ => true) true n 5 (([c0, c1, c2].drop 1).take (Try.prog.cellsOf 5)) = xs[1]? := hi 1 _ rfl
  have h2 : DataW.trod enc Try.prog W 0 (fun _ => true) true n 5 (([c0, c1, c2].drop 2).take (Try.prog.cellsOf 5)) = xs[2]? := hi 2 _ rfl
  rw [cells9, e0] at h0
  rw [cells5, e1] at h1
  rw [cells5, e2] at h2
  obtain ⟨s, rfl, hs⟩ := cell_text h0
  obtain ⟨a, rfl, ha⟩ := cell_u8 h1
  obtain ⟨c, rfl, hc⟩ := cell_u8 h2
  exact ⟨s, a, c, rfl, hs, ha, hc⟩
/-- A list of strings with an index, by value. -/
theorem arg_proof (hv : Value.okWide Try.prog W r b0 43 v) (h : DataW.Trod enc Try.prog W 0 (fun _ => true) true 43 v d p) :
    ∃ (vr : Value) (lr : List (List UInt8)) (z : Int), v = .agg #[vr, .int .i64 z] ∧ Row W vr (strs lr) ∧ ∀ x ∈ lr, (x.length : Int) ≤ 9223372036854775807 := by
  obtain ⟨cs, rfl, hsz⟩ := okWide_struct Try.underlying43 hv
  obtain ⟨c0, c1, rfl⟩ := array2 (hsz.trans cells43)
  obtain ⟨fuel, hf⟩ := h
  obtain ⟨xs, n, _, _, _, hl, hi⟩ := DataW.trod_struct Try.underlying43 hf
  have get : ∀ i, i < 2 → ∃ x, xs[i]? = some x := fun i hi => ⟨_, List.getElem?_eq_getElem (by rw [hl]; exact hi)⟩
  obtain ⟨x0, e0⟩ := get 0 (by omega)
  obtain ⟨x1, e1⟩ := get 1 (by omega)
  have h0 : DataW.trod enc Try.prog W 0 (fun _ => true) true n 28 (([c0, c1].drop 0).take (Try.prog.cellsOf 28)) = xs[0]? := hi 0 _ rfl
  have h1 : DataW.trod enc Try.prog W 0 (fun _ => true) true n 3 (([c0, c1].drop 1).take (Try.prog.cellsOf 3)) = xs[1]? := hi 1 _ rfl
  rw [cells28, e0] at h0
  rw [cells3, e1] at h1
  obtain ⟨lr, hr, hs, -⟩ := cell_strs h0
  obtain ⟨z, rfl⟩ := cell_num h1
  exact ⟨c0, lr, z, rfl, hr, hs⟩
/-- Two small numbers, by value. -/
theorem arg_pair (hv : Value.okWide Try.prog W r b0 41 v) (h : DataW.Trod enc Try.prog W 0 (fun _ => true) true 41 v d p) :
    ∃ a b : Nat, v = .agg #[.int .u8 (a : Int), .int .u8 (b : Int)] ∧ a < 256 ∧ b < 256 := by
  obtain ⟨cs, rfl, hsz⟩ := okWide_array Try.underlying41 hv
  obtain ⟨c0, c1, rfl⟩ := array2 (hsz.trans cells41)
  obtain ⟨fuel, hf⟩ := h
  obtain ⟨xs, m, _, _, _, hl, hi⟩ := DataW.trod_array Try.underlying41 hf
  simp only [Value.cells, cells5] at hi
  have get : ∀ i, i < 2 → ∃ x, xs[i]? = some x := fun i hi => ⟨_, List.getElem?_eq_getElem (by omega)⟩
  obtain ⟨x0, e0⟩ := get 0 (by omega)
  obtain ⟨x1, e1⟩ := get 1 (by omega)
  have h0 := hi 0 (by omega)
  have h1 := hi 1 (by omega)
  rw [e0] at h0
  rw [e1] at h1
  obtain ⟨a, rfl, ha⟩ := cell_u8 h0
  obtain ⟨b, rfl, hb⟩ := cell_u8 h1
  exact ⟨a, b, rfl, ha, hb⟩
end
end
end Go.Proofs.Ytmgkbkpfhpkbcaa
