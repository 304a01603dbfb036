/- Arguments: truth values, three numbers. -/
import Derived.Test.YtoaldbjcpfkcjaaGreatrFrameN
import Derived.Test.YtoaldbjcpfkcjaaGreatrLTn
namespace Go.Proofs.YtoaldbjcpfkcjaaGreat
open Go.ChangeShapes Go.WideShapes Go.ChangeAt Go.RowKit Go.Joins
set_option maxRecDepth 100000
theorem cells53 : Tryz.prog.cellsOf 53 = 3 := by kernel_rfl
theorem okWide_array {P : Program} {w : World} {r : Reach} {base : Nat} {t : TypeId} {v : Value} {n : Nat} {e : TypeId} (ht : P.underlying t = some (.array n e)) (h : Value.okWide P w r base t v) : ∃ cs, v = .agg cs ∧ cs.size = P.cellsOf t := by
  simp only [Value.okWide, ht] at h
  obtain ⟨cs, h1, h2, _⟩ := h
  exact ⟨cs, h1, h2⟩
theorem array_3 {α : Type} {cs : Array α} (h : cs.size = 3) : ∃ c0 c1 c2, cs = #[c0, c1, c2] := by
  obtain ⟨l⟩ := cs
  match l, h with
  | [c0, c1, c2], _ => exact ⟨c0, c1, c2, rfl⟩
section
variable {H : Type} {enc : TypeId × Value → H} {W : World}
theorem cell_bool {m : Nat} {c : Value} {x : DataW H × List MemPlace} (h : DataW.trod enc Tryz.prog W 0 (fun _ => true) true m 4 [c] = some x) : ∃ z : Bool, c = .bool z := by
  cases m with
  | zero => simp [DataW.trod] at h
  | succ m =>
    unfold DataW.trod at h
    rw [Tryz.underlying4] at h
    simp at h
    split at h <;> simp_all
set_option maxRecDepth 100000 in
theorem arg_bools {r : Reach} {b0 : Nat} {v : Value} {d : DataW H} {p : List MemPlace} (hv : Value.okWide Tryz.prog W r b0 52 v) (h : DataW.Trod enc Tryz.prog W 0 (fun _ => true) true 52 v d p) :
    ∃ xs : List Bool, RowB W v xs := by
  obtain ⟨a0, len0, cap0, rfl⟩ := okWide_slice Tryz.underlying52 hv
  obtain ⟨m, hf⟩ := h
  rcases DataW.trod_slice Tryz.underlying52 hf with ⟨h0, _⟩ | ⟨a, len, cap, elems, rest, n, _, hcs, -, hb, hl, hm, hlen, hel, -, -⟩
  · simp [Value.cells] at h0
    obtain ⟨rfl, rfl, rfl⟩ := h0
    exact ⟨[], none, 0, rfl, by simp, by simp, .inl rfl⟩
  · simp [Value.cells] at hcs
    obtain ⟨rfl, rfl, rfl⟩ := hcs
    have each : ∀ i, i < len0 → ∃ z : Bool, ∀ j c, ([.bool z] : List Value)[j]? = some c → W.cell? ((a.add (i * Tryz.prog.cellsOf 4)).add j) = some c := by
      intro i hi
      have hE := hel i hi
      rw [List.getElem?_eq_getElem (by omega), Option.bind_eq_some_iff] at hE
      obtain ⟨cs', hcs, hy'⟩ := hE
      rw [cells4] at hcs
      obtain ⟨c0, rfl, hc⟩ := cells_one hcs
      obtain ⟨x, rfl⟩ := cell_bool hy'
      rw [cells4]
      exact ⟨x, fun j c h => hc j c h⟩
    obtain ⟨vs, hll, hq⟩ := choose_list (fun i (z : Bool) => ∀ j c, ([.bool z] : List Value)[j]? = some c → W.cell? ((a.add (i * Tryz.prog.cellsOf 4)).add j) = some c) len0 each
    unfold maxLen at hm
    refine ⟨vs, some a, cap0, by rw [hll], by rw [hll]; exact hl, by omega, ?_⟩
    rcases vs with _ | ⟨z0, vs⟩
    · exact .inl rfl
    · right
      obtain ⟨b, off, spot⟩ := a
      have hspot : spot = none := by simpa [Addr.add] using World.cell?_spot (hq 0 z0 rfl 0 _ rfl)
      subst hspot
      refine ⟨b, off, rfl, fun i u hu => ?_⟩
      have k0 := hq i u hu 0 _ rfl
      rw [add_plain, add_plain, cells4, Nat.mul_one, Nat.add_zero] at k0
      exact k0
section
variable {r : Reach} {b0 : Nat} {v : Value} {d : DataW H} {p : List MemPlace}
/-- Three numbers, by value. -/
theorem arg_trio (hv : Value.okWide Tryz.prog W r b0 53 v) (h : DataW.Trod enc Tryz.prog W 0 (fun _ => true) true 53 v d p) :
    ∃ a0 a1 a2 : Int, v = .agg #[.int .i64 a0, .int .i64 a1, .int .i64 a2] ∧ (-9223372036854775808 ≤ a0 ∧ a0 ≤ 9223372036854775807) ∧ (-9223372036854775808 ≤ a1 ∧ a1 ≤ 9223372036854775807) ∧ (-9223372036854775808 ≤ a2 ∧ a2 ≤ 9223372036854775807) := by
  obtain ⟨cs, rfl, hsz⟩ := okWide_array Tryz.underlying53 hv
  obtain ⟨c0, c1, c2, rfl⟩ := array_3 (hsz.trans cells53)
  obtain ⟨fuel, hf⟩ := h
  obtain ⟨xs, m, _, _, _, hl, hi⟩ := DataW.trod_array Tryz.underlying53 hf
  simp only [Value.cells, cells3] at hi
  obtain ⟨x0, e0⟩ := some_at (i := 0) hl (by decide)
  obtain ⟨x1, e1⟩ := some_at (i := 1) hl (by decide)
  obtain ⟨x2, e2⟩ := some_at (i := 2) hl (by decide)
  have h0 := hi 0 (by omega)
  have h1 := hi 1 (by omega)
  have h2 := hi 2 (by omega)
  rw [e0] at h0
  rw [e1] at h1
  rw [e2] at h2
  obtain ⟨a0, rfl, b0⟩ := cell_int h0
  obtain ⟨a1, rfl, b1⟩ := cell_int h1
  obtain ⟨a2, rfl, b2⟩ := cell_int h2
  exact ⟨a0, a1, a2, rfl, b0, b1, b2⟩
end
end
end Go.Proofs.YtoaldbjcpfkcjaaGreat
