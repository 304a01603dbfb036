/- How a slice of the law's values reads as data. -/
import Derived.Test.YtjiljkiedidmeaaDoorFrame
import Derived.Test.YtjiljkiedidmeaaDoorFive
namespace Go.Proofs.YtjiljkiedidmeaaDoor
open Go.ChangeShapes Go.WideShapes Go.ChangeAt Go.RowKit Go.Joins

theorem cells_five {w : World} {base : Nat} {a : Addr} {cs : List Value} (h : w.cells? base a 5 = some cs) :
    ∃ c0 c1 c2 c3 c4, cs = [c0, c1, c2, c3, c4] ∧ ∀ j c, [c0, c1, c2, c3, c4][j]? = some c → w.cell? (a.add j) = some c := by
  unfold World.cells? at h
  split at h
  · have hl := Lib.mapM_length h
    simp at hl
    match cs, hl with
    | [c0, c1, c2, c3, c4], _ =>
      refine ⟨c0, c1, c2, c3, c4, rfl, fun j c hc => ?_⟩
      have hj : j < 5 := by
        have := (List.getElem?_eq_some_iff.1 hc).1
        simpa using this
      obtain ⟨b, hb, hf⟩ := Lib.mapM_at h j j (by simp [hj])
      rw [hc] at hb
      obtain rfl := Option.some.inj hb
      exact hf
  · cases h

set_option maxRecDepth 100000 in
theorem arg_values {H : Type} {enc : TypeId × Value → H} {W : World} {r : Reach} {b0 : Nat} {v : Value} {d : DataW H} {p : List MemPlace} (hv : Value.okWide Tryd.prog W r b0 43 v) (h : DataW.Trod enc Tryd.prog W 0 (fun _ => true) true 43 v d p) :
    ∃ vs : List V5, RowV W v vs ∧ ∀ u ∈ vs, u.ok W := by
  obtain ⟨a0, len0, cap0, rfl⟩ := okWide_slice Tryd.underlying43 hv
  obtain ⟨m, hf⟩ := h
  rcases DataW.trod_slice Tryd.underlying43 hf with ⟨h0, _⟩ | ⟨a, len, cap, elems, rest, n, _, hcs, -, hb, hl, hm, hlen, hel, -, -⟩
  · simp [Value.cells] at h0
    obtain ⟨rfl, rfl, rfl⟩ := h0
    exact ⟨[], ⟨none, 0, rfl, by simp, by simp, .inl rfl⟩, by simp⟩
  · simp [Value.cells] at hcs
    obtain ⟨rfl, rfl, rfl⟩ := hcs
    have each : ∀ i, i < len0 → ∃ z : V5, z.ok W ∧ ∀ j c, z.cells[j]? = some c → W.cell? ((a.add (i * 5)).add j) = some c := by
      intro i hi
      have hE := hel i hi
      rw [List.getElem?_eq_getElem (by omega), cells45, Option.bind_eq_some_iff] at hE
      obtain ⟨cs', hcs, hy'⟩ := hE
      obtain ⟨c0, c1, c2, c3, c4, rfl, hc⟩ := cells_five hcs
      obtain ⟨n, N, s, l, t, rfl, rfl, rfl, hn, hN, hs, hl, ht, il, it⟩ := cells_value hy'
      exact ⟨⟨n, N, s, c3, l, c4, t⟩, ⟨hN, hs, hl, ht, il, it⟩, fun j c h => hc j c h⟩
    obtain ⟨vs, hll, hq⟩ := choose_list (fun i (z : V5) => z.ok W ∧ ∀ j c, z.cells[j]? = some c → W.cell? ((a.add (i * 5)).add j) = some c) len0 each
    unfold maxLen at hm
    refine ⟨vs, ⟨some a, cap0, by rw [hll], by rw [hll]; exact hl, by omega, ?_⟩, fun z hz => ?_⟩
    · rcases vs with _ | ⟨z0, vs⟩
      · exact .inl rfl
      · right
        obtain ⟨b, off, spot⟩ := a
        have hspot : spot = none := by simpa [Addr.add] using World.cell?_spot ((hq 0 z0 rfl).2 0 _ rfl)
        subst hspot
        refine ⟨b, off, rfl, fun i u hu j c hc => ?_⟩
        have := (hq i u hu).2 j c hc
        rw [add_plain, add_plain] at this
        exact this
    · obtain ⟨i, hi⟩ := List.getElem?_of_mem hz
      exact (hq i z hi).1

end Go.Proofs.YtjiljkiedidmeaaDoor
