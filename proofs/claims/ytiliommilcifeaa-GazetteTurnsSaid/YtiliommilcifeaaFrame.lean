/- How the arguments of gazette's laws read as data. -/
import Derived.Test.YtiliommilcifeaaO
import Derived.ProofKit
import Derived.OpenShut
import Derived.MakeChecks
import Derived.SliceStrings
import Derived.Lib.SmallJoins
namespace Go.Proofs.Ytiliommilcifeaa
open Go.ChangeShapes Go.WideShapes Go.ChangeAt Go.RowKit Go.Joins

set_option maxRecDepth 100000
theorem own : ownKnob Try.prog.godebug = none := by kernel_rfl
theorem laidOut : laidOutB Try.prog = true := by kernel_rfl
theorem cells3 : Try.prog.cellsOf 3 = 1 := by kernel_rfl
theorem cells5 : Try.prog.cellsOf 5 = 1 := by kernel_rfl
theorem cells9 : Try.prog.cellsOf 9 = 1 := by kernel_rfl
theorem cells34 : Try.prog.cellsOf 34 = 2 := by kernel_rfl
theorem cells36 : Try.prog.cellsOf 36 = 7 := by kernel_rfl
theorem cells48 : Try.prog.cellsOf 48 = 3 := by kernel_rfl
theorem okWide_array {P : Program} {w : World} {r : Reach} {base : Nat} {t : TypeId} {v : Value} {n : Nat} {e : TypeId} (ht : P.underlying t = some (.array n e)) (h : Value.okWide P w r base t v) : ∃ cs, v = .agg cs ∧ cs.size = P.cellsOf t := by
  simp only [Value.okWide, ht] at h
  obtain ⟨cs, h1, h2, _⟩ := h
  exact ⟨cs, h1, h2⟩
def I64 (x : Int) : Prop := -9223372036854775808 ≤ x ∧ x ≤ 9223372036854775807
def Len (s : List UInt8) : Prop := (s.length : Int) ≤ 9223372036854775807
/-- A place as it may come in. -/
def Pl.good (p : Pl) : Prop := Len p.nm ∧ I64 p.id ∧ I64 p.w

section
variable {H : Type} {enc : TypeId × Value → H} {W : World}

theorem choose_list {α : Type} (Q : Nat → α → Prop) : ∀ (k : Nat), (∀ i, i < k → ∃ z, Q i z) → ∃ l : List α, l.length = k ∧ ∀ i z, l[i]? = some z → Q i z := by
  intro k
  induction k with
  | zero => intro _; exact ⟨[], rfl, fun i z h => by simp at h⟩
  | succ k ih =>
    intro h
    obtain ⟨l, hl, hq⟩ := ih fun i hi => h i (by omega)
    obtain ⟨z, hz⟩ := h k (by omega)
    refine ⟨l ++ [z], by simp [hl], fun i x hx => ?_⟩
    rcases Nat.lt_or_ge i k with hi | hi
    · rw [List.getElem?_append_left (by omega)] at hx
      exact hq i x hx
    · rw [List.getElem?_append_right (by omega)] at hx
      have e : i = k := by
        rcases Nat.lt_or_ge k i with h2 | h2
        · rw [List.getElem?_eq_none (by simp; omega)] at hx; cases hx
        · omega
      subst e
      simp [hl] at hx
      subst hx; exact hz
theorem cell_num {m : Nat} {c : Value} {x : DataW H × List MemPlace} (h : DataW.trod enc Try.prog W 0 (fun _ => true) true m 3 [c] = some x) : ∃ z, c = .int .i64 z ∧ I64 z := by
  obtain ⟨z, hz, _, wf⟩ := DataW.trod_int Try.underlying3 h
  simp at hz
  simp [Lit.wf, IntKind.min, IntKind.max, IntKind.bits, IntKind.signed] at wf
  exact ⟨z, hz, by unfold I64; omega⟩
theorem cell_u8 {m : Nat} {c : Value} {x : DataW H × List MemPlace} (h : DataW.trod enc Try.prog W 0 (fun _ => true) true m 5 [c] = some x) : ∃ z : Nat, c = .int .u8 (z : Int) ∧ z < 256 := by
  obtain ⟨z, hz, _, wf⟩ := DataW.trod_int Try.underlying5 h
  simp at hz
  simp [Lit.wf, IntKind.min, IntKind.max, IntKind.bits, IntKind.signed] at wf
  refine ⟨z.toNat, ?_, by omega⟩
  rw [hz, Int.toNat_of_nonneg (by omega)]
theorem cell_text {m : Nat} {c : Value} {x : DataW H × List MemPlace} (h : DataW.trod enc Try.prog W 0 (fun _ => true) true m 9 [c] = some x) : ∃ s : List UInt8, c = str s ∧ (s.length : Int) ≤ 9223372036854775807 := by
  obtain ⟨s, hs, _, hb⟩ := DataW.trod_string Try.underlying9 h
  simp at hs
  unfold maxLen at hb
  refine ⟨s.data.toList, hs, ?_⟩
  have e : s.data.toList.length = s.size := rfl
  rw [e]
  exact Int.ofNat_le.2 hb
theorem cell_point {m : Nat} {c0 c1 : Value} {x : DataW H × List MemPlace} (h : DataW.trod enc Try.prog W 0 (fun _ => true) true m 34 [c0, c1] = some x) : ∃ a b : Int, c0 = .int .i64 a ∧ c1 = .int .i64 b := by
  obtain ⟨xs, k, _, _, _, hl, hi⟩ := DataW.trod_struct Try.underlying34 h
  have get : ∀ i, i < 2 → ∃ x, xs[i]? = some x := fun i hi => ⟨_, List.getElem?_eq_getElem (by rw [hl]; exact hi)⟩
  obtain ⟨x0, e0⟩ := get 0 (by omega)
  obtain ⟨x1, e1⟩ := get 1 (by omega)
  have h0 : DataW.trod enc Try.prog W 0 (fun _ => true) true k 3 (([c0, c1].drop 0).take (Try.prog.cellsOf 3)) = xs[0]? := hi 0 _ rfl
  have h1 : DataW.trod enc Try.prog W 0 (fun _ => true) true k 3 (([c0, c1].drop 1).take (Try.prog.cellsOf 3)) = xs[1]? := hi 1 _ rfl
  rw [cells3, e0] at h0
  rw [cells3, e1] at h1
  obtain ⟨a, rfl, -⟩ := cell_num h0
  obtain ⟨b, rfl, -⟩ := cell_num h1
  exact ⟨a, b, rfl, rfl⟩
/-- The seven cells of a place. -/
theorem cells_place {m : Nat} {c0 c1 c2 c3 c4 c5 c6 : Value} {x : DataW H × List MemPlace} (h : DataW.trod enc Try.prog W 0 (fun _ => true) true m 36 [c0, c1, c2, c3, c4, c5, c6] = some x) :
    ∃ p : Pl, [c0, c1, c2, c3, c4, c5, c6] = p.cells ∧ p.good := by
  obtain ⟨xs, k, _, _, _, hl, hi⟩ := DataW.trod_struct Try.underlying36 h
  have get : ∀ i, i < 6 → ∃ x, xs[i]? = some x := fun i hi => ⟨_, List.getElem?_eq_getElem (by rw [hl]; exact hi)⟩
  obtain ⟨x0, e0⟩ := get 0 (by omega)
  obtain ⟨x1, e1⟩ := get 1 (by omega)
  obtain ⟨x2, e2⟩ := get 2 (by omega)
  obtain ⟨x3, e3⟩ := get 3 (by omega)
  obtain ⟨x4, e4⟩ := get 4 (by omega)
  obtain ⟨x5, e5⟩ := get 5 (by omega)
  have h0 : DataW.trod enc Try.prog W 0 (fun _ => true) true k 3 (([c0, c1, c2, c3, c4, c5, c6].drop 0).take (Try.prog.cellsOf 3)) = xs[0]? := hi 0 _ rfl
  have h1 : DataW.trod enc Try.prog W 0 (fun _ => true) true k 34 (([c0, c1, c2, c3, c4, c5, c6].drop 1).take (Try.prog.cellsOf 34)) = xs[1]? := hi 1 _ rfl
  have h2 : DataW.trod enc Try.prog W 0 (fun _ => true) true k 9 (([c0, c1, c2, c3, c4, c5, c6].drop 3).take (Try.prog.cellsOf 9)) = xs[2]? := hi 2 _ rfl
  have h3 : DataW.trod enc Try.prog W 0 (fun _ => true) true k 9 (([c0, c1, c2, c3, c4, c5, c6].drop 4).take (Try.prog.cellsOf 9)) = xs[3]? := hi 3 _ rfl
  have h4 : DataW.trod enc Try.prog W 0 (fun _ => true) true k 3 (([c0, c1, c2, c3, c4, c5, c6].drop 5).take (Try.prog.cellsOf 3)) = xs[4]? := hi 4 _ rfl
  have h5 : DataW.trod enc Try.prog W 0 (fun _ => true) true k 3 (([c0, c1, c2, c3, c4, c5, c6].drop 6).take (Try.prog.cellsOf 3)) = xs[5]? := hi 5 _ rfl
  rw [cells3, e0] at h0
  rw [cells34, e1] at h1
  rw [cells9, e2] at h2
  rw [cells9, e3] at h3
  rw [cells3, e4] at h4
  rw [cells3, e5] at h5
  obtain ⟨id, rfl, b0⟩ := cell_num h0
  obtain ⟨px, py, rfl, rfl⟩ := cell_point h1
  obtain ⟨cl, rfl, -⟩ := cell_text h2
  obtain ⟨nm, rfl, b3⟩ := cell_text h3
  obtain ⟨wt, rfl, b4⟩ := cell_num h4
  obtain ⟨dt, rfl, -⟩ := cell_num h5
  exact ⟨⟨id, px, py, cl, nm, wt, dt⟩, rfl, b3, b0, b4⟩
theorem cells_seven {w : World} {base : Nat} {a : Addr} {cs : List Value} (h : w.cells? base a 7 = some cs) :
    ∃ c0 c1 c2 c3 c4 c5 c6, cs = [c0, c1, c2, c3, c4, c5, c6] ∧ ∀ j c, [c0, c1, c2, c3, c4, c5, c6][j]? = some c → w.cell? (a.add j) = some c := by
  unfold World.cells? at h
  split at h
  · have hl := Lib.mapM_length h
    simp at hl
    match cs, hl with
    | [c0, c1, c2, c3, c4, c5, c6], _ =>
      refine ⟨c0, c1, c2, c3, c4, c5, c6, rfl, fun j c hc => ?_⟩
      have hj : j < 7 := by
        have := (List.getElem?_eq_some_iff.1 hc).1
        simpa using this
      obtain ⟨b, hb, hf⟩ := Lib.mapM_at h j j (by simp [hj])
      rw [hc] at hb
      obtain rfl := Option.some.inj hb
      exact hf
  · cases h

section
variable {r : Reach} {b0 : Nat} {v : Value} {d : DataW H} {p : List MemPlace}
theorem arg_text (hv : Value.okWide Try.prog W r b0 9 v) (h : DataW.Trod enc Try.prog W 0 (fun _ => true) true 9 v d p) :
    ∃ s : List UInt8, v = str s ∧ (s.length : Int) ≤ 9223372036854775807 := by
  obtain ⟨s, rfl⟩ := okWide_string Try.underlying9 hv
  obtain ⟨m, hf⟩ := h
  exact cell_text hf
theorem arg_u8 (hv : Value.okWide Try.prog W r b0 5 v) (h : DataW.Trod enc Try.prog W 0 (fun _ => true) true 5 v d p) : ∃ n : Nat, v = .int .u8 (n : Int) ∧ n < 256 := by
  obtain ⟨z, rfl⟩ := okWide_int Try.underlying5 hv
  obtain ⟨m, hf⟩ := h
  exact cell_u8 hf
theorem array3 {α : Type} {cs : Array α} (h : cs.size = 3) : ∃ c0 c1 c2, cs = #[c0, c1, c2] := by
  obtain ⟨l⟩ := cs
  match l, h with
  | [c0, c1, c2], _ => exact ⟨c0, c1, c2, rfl⟩
/-- Three strings, by value. -/
theorem arg_three (hv : Value.okWide Try.prog W r b0 48 v) (h : DataW.Trod enc Try.prog W 0 (fun _ => true) true 48 v d p) :
    ∃ s t u : List UInt8, v = .agg #[str s, str t, str u] ∧ (s.length : Int) ≤ 9223372036854775807 ∧ (t.length : Int) ≤ 9223372036854775807 ∧ (u.length : Int) ≤ 9223372036854775807 := by
  obtain ⟨cs, rfl, hsz⟩ := okWide_array Try.underlying48 hv
  obtain ⟨c0, c1, c2, rfl⟩ := array3 (hsz.trans cells48)
  obtain ⟨fuel, hf⟩ := h
  obtain ⟨xs, m, _, _, _, hl, hi⟩ := DataW.trod_array Try.underlying48 hf
  simp only [Value.cells, cells9] at hi
  have get : ∀ i, i < 3 → ∃ x, xs[i]? = some x := fun i hi => ⟨_, List.getElem?_eq_getElem (by omega)⟩
  obtain ⟨x0, e0⟩ := get 0 (by omega)
  obtain ⟨x1, e1⟩ := get 1 (by omega)
  obtain ⟨x2, e2⟩ := get 2 (by omega)
  have h0 := hi 0 (by omega)
  have h1 := hi 1 (by omega)
  have h2 := hi 2 (by omega)
  rw [e0] at h0
  rw [e1] at h1
  rw [e2] at h2
  obtain ⟨s, rfl, b0⟩ := cell_text h0
  obtain ⟨t, rfl, b1⟩ := cell_text h1
  obtain ⟨u, rfl, b2⟩ := cell_text h2
  exact ⟨s, t, u, rfl, b0, b1, b2⟩
/-- Places. -/
theorem arg_places (hv : Value.okWide Try.prog W r b0 26 v) (h : DataW.Trod enc Try.prog W 0 (fun _ => true) true 26 v d p) :
    ∃ ps : List Pl, Row tP W v ps ∧ ∀ q ∈ ps, q.good := by
  obtain ⟨a0, len0, cap0, rfl⟩ := okWide_slice Try.underlying26 hv
  obtain ⟨m, hf⟩ := h
  rcases DataW.trod_slice Try.underlying26 hf with ⟨h0, _⟩ | ⟨a, len, cap, elems, rest, n, _, hcs, -, hb, hl, hm, hlen, hel, -, -⟩
  · simp [Value.cells] at h0
    obtain ⟨rfl, rfl, rfl⟩ := h0
    exact ⟨[], Row.nil _, by simp⟩
  · simp [Value.cells] at hcs
    obtain ⟨rfl, rfl, rfl⟩ := hcs
    have each : ∀ i, i < len0 → ∃ z : Pl, z.good ∧ ∀ j c, z.cells[j]? = some c → W.cell? ((a.add (i * 7)).add j) = some c := by
      intro i hi
      have hE := hel i hi
      rw [List.getElem?_eq_getElem (by omega), cells36, Option.bind_eq_some_iff] at hE
      obtain ⟨cs', hcs, hy'⟩ := hE
      obtain ⟨c0, c1, c2, c3, c4, c5, c6, rfl, hc⟩ := cells_seven hcs
      obtain ⟨p, hp, hg⟩ := cells_place hy'
      exact ⟨p, hg, fun j c h => hc j c (by rw [hp]; exact h)⟩
    obtain ⟨ps, hll, hq⟩ := choose_list (fun i (z : Pl) => z.good ∧ ∀ j c, z.cells[j]? = some c → W.cell? ((a.add (i * 7)).add j) = some c) len0 each
    unfold maxLen at hm
    refine ⟨ps, ⟨some a, cap0, by rw [hll], by rw [hll]; exact hl, by omega, ?_⟩, fun z hz => ?_⟩
    · rcases ps with _ | ⟨z0, ps⟩
      · exact .inl rfl
      · right
        obtain ⟨b, off, spot⟩ := a
        have hspot : spot = none := by simpa [Addr.add] using World.cell?_spot ((hq 0 z0 rfl).2 0 _ rfl)
        subst hspot
        refine ⟨b, off, rfl, fun j u hu => ?_⟩
        have hk : j < (z0 :: ps).length * 7 := by
          have := (List.getElem?_eq_some_iff.1 hu).1
          rw [flat_length tP_ok] at this; exact this
        have h1 : j / 7 < (z0 :: ps).length := by omega
        obtain ⟨q, hq1⟩ : ∃ q, (z0 :: ps)[j / 7]? = some q := ⟨_, List.getElem?_eq_getElem h1⟩
        obtain ⟨c, hc1⟩ : ∃ c, q.cells[j % 7]? = some c := ⟨_, List.getElem?_eq_getElem (by show j % 7 < 7; omega)⟩
        have h2 := flat_at tP_ok hq1 hc1
        have h3 : j / 7 * tP.k + j % 7 = j := by show j / 7 * 7 + j % 7 = j; omega
        rw [h3, hu] at h2
        obtain rfl := Option.some.inj h2
        have := (hq _ q hq1).2 _ _ hc1
        rw [add_plain, add_plain] at this
        rw [show off + j = off + j / 7 * 7 + j % 7 by omega]
        exact this
    · obtain ⟨i, hi⟩ := List.getElem?_of_mem hz
      exact (hq i z hi).1
end
end
end Go.Proofs.Ytiliommilcifeaa
