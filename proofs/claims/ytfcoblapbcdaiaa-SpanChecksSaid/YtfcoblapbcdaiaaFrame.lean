/- How the arguments of span's laws read as data. -/
import Derived.Test.YtfcoblapbcdaiaaO
import Derived.ProofKit
import Derived.OpenShut
import Derived.MakeChecks
import Derived.Lib.SmallJoins
namespace Go.Proofs.Ytfcoblapbcdaiaa
open Go.ChangeShapes Go.WideShapes Go.ChangeAt Go.RowKit Go.Joins

set_option maxRecDepth 100000
theorem own : ownKnob Try.prog.godebug = none := by kernel_rfl
theorem laidOut : laidOutB Try.prog = true := by kernel_rfl
theorem cells3 : Try.prog.cellsOf 3 = 1 := by kernel_rfl
theorem cells5 : Try.prog.cellsOf 5 = 1 := by kernel_rfl
theorem cells23 : Try.prog.cellsOf 23 = 1 := by kernel_rfl
theorem cells25 : Try.prog.cellsOf 25 = 2 := by kernel_rfl
theorem cells26 : Try.prog.cellsOf 26 = 4 := by kernel_rfl
theorem cells30 : Try.prog.cellsOf 30 = 5 := by kernel_rfl
theorem cells42 : Try.prog.cellsOf 42 = 2 := by kernel_rfl
theorem okWide_array {P : Program} {w : World} {r : Reach} {base : Nat} {t : TypeId} {v : Value} {n : Nat} {e : TypeId} (ht : P.underlying t = some (.array n e)) (h : Value.okWide P w r base t v) : ∃ cs, v = .agg cs ∧ cs.size = P.cellsOf t := by
  simp only [Value.okWide, ht] at h
  obtain ⟨cs, h1, h2, _⟩ := h
  exact ⟨cs, h1, h2⟩
def I64 (x : Int) : Prop := -9223372036854775808 ≤ x ∧ x ≤ 9223372036854775807

section
variable {H : Type} {enc : TypeId × Value → H} {W : World}

theorem choose_list {α : Type} (Q : Nat → α → Prop) : ∀ (k : Nat), (∀ i, i < k → ∃ z, Q i z) → ∃ l : List α, l.length = k ∧ ∀ i z, l[i]? = some z → Q i z := by
  intro k
  induction k with
  | zero => intro _; exact ⟨[], rfl, fun i z h => by simp at h⟩
  | succ k ih =>
    intro h
    obtain ⟨l, hl, hq⟩ := ih fun i hi => h i (by omega)
    obtain ⟨z, hz⟩ := h k (by omega)
    refine ⟨l ++ [z], by simp [hl], fun i x hx => ?_⟩
    rcases Nat.lt_or_ge i k with hi | hi
    · rw [List.getElem?_append_left (by omega)] at hx
      exact hq i x hx
    · rw [List.getElem?_append_right (by omega)] at hx
      have e : i = k := by
        rcases Nat.lt_or_ge k i with h2 | h2
        · rw [List.getElem?_eq_none (by simp; omega)] at hx; cases hx
        · omega
      subst e
      simp [hl] at hx
      subst hx; exact hz
theorem cell_num {m : Nat} {c : Value} {x : DataW H × List MemPlace} (h : DataW.trod enc Try.prog W 0 (fun _ => true) true m 3 [c] = some x) : ∃ z, c = .int .i64 z ∧ I64 z := by
  obtain ⟨z, hz, _, wf⟩ := DataW.trod_int Try.underlying3 h
  simp at hz
  simp [Lit.wf, IntKind.min, IntKind.max, IntKind.bits, IntKind.signed] at wf
  exact ⟨z, hz, by unfold I64; omega⟩
theorem cell_u8 {m : Nat} {c : Value} {x : DataW H × List MemPlace} (h : DataW.trod enc Try.prog W 0 (fun _ => true) true m 5 [c] = some x) : ∃ z : Nat, c = .int .u8 (z : Int) ∧ z < 256 := by
  obtain ⟨z, hz, _, wf⟩ := DataW.trod_int Try.underlying5 h
  simp at hz
  simp [Lit.wf, IntKind.min, IntKind.max, IntKind.bits, IntKind.signed] at wf
  refine ⟨z.toNat, ?_, by omega⟩
  rw [hz, Int.toNat_of_nonneg (by omega)]
theorem cells_many {w : World} {base k : Nat} {a : Addr} {cs : List Value} (h : w.cells? base a k = some cs) : cs.length = k ∧ ∀ j c, cs[j]? = some c → w.cell? (a.add j) = some c := by
  unfold World.cells? at h
  split at h
  · have hl := Lib.mapM_length h
    simp at hl
    refine ⟨by omega, fun j c hc => ?_⟩
    have hj : j < k := by
      have := (List.getElem?_eq_some_iff.1 hc).1
      omega
    obtain ⟨b, hb, hf⟩ := Lib.mapM_at h j j (by simp [hj])
    rw [hc] at hb
    obtain rfl := Option.some.inj hb
    exact hf
  · cases h
/-- A list in memory, of any kind. -/
theorem cell_kind {α : Type} {T : Ty α} (hT : T.Ok) (G : α → Prop) (hc : Try.prog.cellsOf T.e = T.k)
    (dec : ∀ m cs x, cs.length = T.k → DataW.trod enc Try.prog W 0 (fun _ => true) true m T.e cs = some x → ∃ z, cs = T.enc z ∧ G z)
    {m : Nat} {c : Value} {x : DataW H × List MemPlace} (h : DataW.trod enc Try.prog W 0 (fun _ => true) true m T.t [c] = some x) : ∃ xs : List α, Row T W c xs ∧ ∀ z ∈ xs, G z := by
  rcases DataW.trod_slice hT.ht h with ⟨h0, _⟩ | ⟨a, len, cap, elems, rest, n, _, hcs, -, hb, hl, hm, hlen, hel, -, -⟩
  · simp at h0
    subst h0
    exact ⟨[], Row.nil _, by simp⟩
  · simp at hcs
    subst hcs
    have hk := hT.hpos
    have each : ∀ i, i < len → ∃ z : α, G z ∧ ∀ j c, (T.enc z)[j]? = some c → W.cell? ((a.add (i * T.k)).add j) = some c := by
      intro i hi
      have hE := hel i hi
      rw [List.getElem?_eq_getElem (by omega), hc, Option.bind_eq_some_iff] at hE
      obtain ⟨cs', hcs, hy'⟩ := hE
      obtain ⟨hn, hcc⟩ := cells_many hcs
      obtain ⟨p, hp, hg⟩ := dec _ cs' _ hn hy'
      exact ⟨p, hg, fun j c h => hcc j c (by rw [hp]; exact h)⟩
    obtain ⟨ps, hll, hq⟩ := choose_list (fun i (z : α) => G z ∧ ∀ j c, (T.enc z)[j]? = some c → W.cell? ((a.add (i * T.k)).add j) = some c) len each
    unfold maxLen at hm
    refine ⟨ps, ⟨some a, cap, by rw [hll], by rw [hll]; exact hl, by omega, ?_⟩, fun z hz => ?_⟩
    · rcases ps with _ | ⟨z0, ps⟩
      · exact .inl rfl
      · right
        obtain ⟨b, off, spot⟩ := a
        have h00 : (T.enc z0)[0]? = some ((T.enc z0)[0]'(by rw [hT.hk]; exact hk)) := List.getElem?_eq_getElem _
        have hspot : spot = none := by simpa [Addr.add] using World.cell?_spot ((hq 0 z0 rfl).2 0 _ h00)
        subst hspot
        refine ⟨b, off, rfl, fun j u hu => ?_⟩
        have hk2 : j < (z0 :: ps).length * T.k := by
          have := (List.getElem?_eq_some_iff.1 hu).1
          rw [flat_length hT] at this; exact this
        have h1 : j / T.k < (z0 :: ps).length := (Nat.div_lt_iff_lt_mul hk).2 hk2
        obtain ⟨q, hq1⟩ : ∃ q, (z0 :: ps)[j / T.k]? = some q := ⟨_, List.getElem?_eq_getElem h1⟩
        obtain ⟨c, hc1⟩ : ∃ c, (T.enc q)[j % T.k]? = some c := ⟨_, List.getElem?_eq_getElem (by rw [hT.hk]; exact Nat.mod_lt _ hk)⟩
        have h2 := flat_at hT hq1 hc1
        have h3 : j / T.k * T.k + j % T.k = j := by rw [Nat.mul_comm]; exact Nat.div_add_mod j T.k
        rw [h3, hu] at h2
        obtain rfl := Option.some.inj h2
        have := (hq _ q hq1).2 _ _ hc1
        rw [add_plain, add_plain, Nat.add_assoc, h3] at this
        exact this
    · obtain ⟨i, hi⟩ := List.getElem?_of_mem hz
      exact (hq i z hi).1
/-- An event. -/
def Ev.good (e : Ev) : Prop := I64 e.at_
theorem cells_event {m : Nat} {cs : List Value} {x : DataW H × List MemPlace} (hn : cs.length = 5) (h : DataW.trod enc Try.prog W 0 (fun _ => true) true m 30 cs = some x) : ∃ e : Ev, cs = tE.enc e ∧ e.good := by
  obtain ⟨c0, c1, c2, c3, c4, rfl⟩ : ∃ c0 c1 c2 c3 c4, cs = [c0, c1, c2, c3, c4] := by
    match cs, hn with
    | [c0, c1, c2, c3, c4], _ => exact ⟨c0, c1, c2, c3, c4, rfl⟩
  obtain ⟨xs, k, _, _, _, hl, hi⟩ := DataW.trod_struct Try.underlying30 h
  have get : ∀ i, i < 5 → ∃ x, xs[i]? = some x := fun i hi => ⟨_, List.getElem?_eq_getElem (by rw [hl]; exact hi)⟩
  obtain ⟨x0, e0⟩ := get 0 (by omega)
  have h0 : DataW.trod enc Try.prog W 0 (fun _ => true) true k 3 (([c0, c1, c2, c3, c4].drop 0).take (Try.prog.cellsOf 3)) = xs[0]? := hi 0 _ rfl
  rw [cells3, e0] at h0
  obtain ⟨x1, e1⟩ := get 1 (by omega)
  have h1 : DataW.trod enc Try.prog W 0 (fun _ => true) true k 3 (([c0, c1, c2, c3, c4].drop 1).take (Try.prog.cellsOf 3)) = xs[1]? := hi 1 _ rfl
  rw [cells3, e1] at h1
  obtain ⟨x2, e2⟩ := get 2 (by omega)
  have h2 : DataW.trod enc Try.prog W 0 (fun _ => true) true k 3 (([c0, c1, c2, c3, c4].drop 2).take (Try.prog.cellsOf 3)) = xs[2]? := hi 2 _ rfl
  rw [cells3, e2] at h2
  obtain ⟨x3, e3⟩ := get 3 (by omega)
  have h3 : DataW.trod enc Try.prog W 0 (fun _ => true) true k 3 (([c0, c1, c2, c3, c4].drop 3).take (Try.prog.cellsOf 3)) = xs[3]? := hi 3 _ rfl
  rw [cells3, e3] at h3
  obtain ⟨x4, e4⟩ := get 4 (by omega)
  have h4 : DataW.trod enc Try.prog W 0 (fun _ => true) true k 3 (([c0, c1, c2, c3, c4].drop 4).take (Try.prog.cellsOf 3)) = xs[4]? := hi 4 _ rfl
  rw [cells3, e4] at h4
  obtain ⟨z0, rfl, b0⟩ := cell_num h0
  obtain ⟨z1, rfl, b1⟩ := cell_num h1
  obtain ⟨z2, rfl, b2⟩ := cell_num h2
  obtain ⟨z3, rfl, b3⟩ := cell_num h3
  obtain ⟨z4, rfl, b4⟩ := cell_num h4
  exact ⟨⟨z0, z1, z2, z3, z4⟩, rfl, b1⟩
theorem cell_events {m : Nat} {c : Value} {x : DataW H × List MemPlace} (h : DataW.trod enc Try.prog W 0 (fun _ => true) true m 23 [c] = some x) : ∃ es : List Ev, Row tE W c es ∧ ∀ z ∈ es, z.good :=
  cell_kind tE_ok Ev.good cells30 (fun _ _ _ hn hx => cells_event hn hx) h
theorem cell_ints {m : Nat} {c : Value} {x : DataW H × List MemPlace} (h : DataW.trod enc Try.prog W 0 (fun _ => true) true m 22 [c] = some x) : ∃ xs : List Int, Row tI W c xs ∧ ∀ z ∈ xs, I64 z :=
  cell_kind tI_ok I64 cells3 (fun _ cs _ hn hx => by
    obtain ⟨c0, rfl⟩ : ∃ c0, cs = [c0] := by
      match cs, hn with
      | [c0], _ => exact ⟨c0, rfl⟩
    obtain ⟨z, rfl, b⟩ := cell_num hx
    exact ⟨z, rfl, b⟩) h

section
variable {r : Reach} {b0 : Nat} {v : Value} {d : DataW H} {p : List MemPlace}
theorem arg_ints (hv : Value.okWide Try.prog W r b0 22 v) (h : DataW.Trod enc Try.prog W 0 (fun _ => true) true 22 v d p) : ∃ xs : List Int, Row tI W v xs := by
  obtain ⟨a, len, cap, rfl⟩ := okWide_slice Try.underlying22 hv
  obtain ⟨m, hf⟩ := h
  obtain ⟨l, h1, -⟩ := cell_ints hf
  exact ⟨l, h1⟩
theorem arg_num (hv : Value.okWide Try.prog W r b0 3 v) (h : DataW.Trod enc Try.prog W 0 (fun _ => true) true 3 v d p) : ∃ n : Int, v = .int .i64 n ∧ I64 n := by
  obtain ⟨z, rfl⟩ := okWide_int Try.underlying3 hv
  obtain ⟨m, hf⟩ := h
  exact cell_num hf
theorem arg_u8 (hv : Value.okWide Try.prog W r b0 5 v) (h : DataW.Trod enc Try.prog W 0 (fun _ => true) true 5 v d p) : ∃ n : Nat, v = .int .u8 (n : Int) ∧ n < 256 := by
  obtain ⟨z, rfl⟩ := okWide_int Try.underlying5 hv
  obtain ⟨m, hf⟩ := h
  exact cell_u8 hf
theorem arg_u32 (hv : Value.okWide Try.prog W r b0 45 v) (h : DataW.Trod enc Try.prog W 0 (fun _ => true) true 45 v d p) : ∃ n : Nat, v = .int .u32 (n : Int) ∧ n < 4294967296 := by
  obtain ⟨z, rfl⟩ := okWide_int Try.underlying45 hv
  obtain ⟨m, hf⟩ := h
  obtain ⟨y, hy, _, wf⟩ := DataW.trod_int Try.underlying45 hf
  simp [Value.cells] at hy
  subst hy
  simp [Lit.wf, IntKind.min, IntKind.max, IntKind.bits, IntKind.signed] at wf
  refine ⟨z.toNat, ?_, by omega⟩
  rw [Int.toNat_of_nonneg (by omega)]
theorem array4 {α : Type} {cs : Array α} (h : cs.size = 4) : ∃ c0 c1 c2 c3, cs = #[c0, c1, c2, c3] := by
  obtain ⟨l⟩ := cs
  match l, h with
  | [c0, c1, c2, c3], _ => exact ⟨c0, c1, c2, c3, rfl⟩
theorem array2 {α : Type} {cs : Array α} (h : cs.size = 2) : ∃ c0 c1, cs = #[c0, c1] := by
  obtain ⟨l⟩ := cs
  match l, h with
  | [c0, c1], _ => exact ⟨c0, c1, rfl⟩
theorem arg_four (hv : Value.okWide Try.prog W r b0 26 v) (h : DataW.Trod enc Try.prog W 0 (fun _ => true) true 26 v d p) :
    ∃ a b c e : Int, v = .agg #[.int .i64 a, .int .i64 b, .int .i64 c, .int .i64 e] ∧ I64 a ∧ I64 b ∧ I64 c ∧ I64 e := by
  obtain ⟨cs, rfl, hsz⟩ := okWide_array Try.underlying26 hv
  obtain ⟨c0, c1, c2, c3, rfl⟩ := array4 (hsz.trans cells26)
  obtain ⟨fuel, hf⟩ := h
  obtain ⟨xs, m, _, _, _, hl, hi⟩ := DataW.trod_array Try.underlying26 hf
  simp only [Value.cells, cells3] at hi
  have get : ∀ i, i < 4 → ∃ x, xs[i]? = some x := fun i hi => ⟨_, List.getElem?_eq_getElem (by omega)⟩
  obtain ⟨x0, e0⟩ := get 0 (by omega)
  have h0 := hi 0 (by omega)
  rw [e0] at h0
  obtain ⟨z0, rfl, b0⟩ := cell_num h0
  obtain ⟨x1, e1⟩ := get 1 (by omega)
  have h1 := hi 1 (by omega)
  rw [e1] at h1
  obtain ⟨z1, rfl, b1⟩ := cell_num h1
  obtain ⟨x2, e2⟩ := get 2 (by omega)
  have h2 := hi 2 (by omega)
  rw [e2] at h2
  obtain ⟨z2, rfl, b2⟩ := cell_num h2
  obtain ⟨x3, e3⟩ := get 3 (by omega)
  have h3 := hi 3 (by omega)
  rw [e3] at h3
  obtain ⟨z3, rfl, b3⟩ := cell_num h3
  exact ⟨z0, z1, z2, z3, rfl, b0, b1, b2, b3⟩
/-- A history, by value. -/
theorem arg_hist (hv : Value.okWide Try.prog W r b0 25 v) (h : DataW.Trod enc Try.prog W 0 (fun _ => true) true 25 v d p) :
    ∃ (z : Int) (sl : Value) (es : List Ev), v = .agg #[.int .i64 z, sl] ∧ Row tE W sl es ∧ ∀ e ∈ es, e.good := by
  obtain ⟨cs, rfl, hsz⟩ := okWide_struct Try.underlying25 hv
  obtain ⟨c0, c1, rfl⟩ := array2 (hsz.trans cells25)
  obtain ⟨fuel, hf⟩ := h
  obtain ⟨xs, n, _, _, _, hl, hi⟩ := DataW.trod_struct Try.underlying25 hf
  have get : ∀ i, i < 2 → ∃ x, xs[i]? = some x := fun i hi => ⟨_, List.getElem?_eq_getElem (by rw [hl]; exact hi)⟩
  obtain ⟨x0, e0⟩ := get 0 (by omega)
  obtain ⟨x1, e1⟩ := get 1 (by omega)
  have h0 : DataW.trod enc Try.prog W 0 (fun _ => true) true n 3 (([c0, c1].drop 0).take (Try.prog.cellsOf 3)) = xs[0]? := hi 0 _ rfl
  have h1 : DataW.trod enc Try.prog W 0 (fun _ => true) true n 23 (([c0, c1].drop 1).take (Try.prog.cellsOf 23)) = xs[1]? := hi 1 _ rfl
  rw [cells3, e0] at h0
  rw [cells23, e1] at h1
  obtain ⟨es, he, hg⟩ := cell_events h1
  obtain ⟨z, rfl, -⟩ := cell_num h0
  exact ⟨z, c1, es, rfl, he, hg⟩
/-- A point, by value. -/
theorem arg_pt (hv : Value.okWide Try.prog W r b0 42 v) (h : DataW.Trod enc Try.prog W 0 (fun _ => true) true 42 v d p) : ∃ a b : Int, v = .agg #[.int .i64 a, .int .i64 b] ∧ I64 a ∧ I64 b := by
  obtain ⟨cs, rfl, hsz⟩ := okWide_struct Try.underlying42 hv
  obtain ⟨c0, c1, rfl⟩ := array2 (hsz.trans cells42)
  obtain ⟨fuel, hf⟩ := h
  obtain ⟨xs, n, _, _, _, hl, hi⟩ := DataW.trod_struct Try.underlying42 hf
  have get : ∀ i, i < 2 → ∃ x, xs[i]? = some x := fun i hi => ⟨_, List.getElem?_eq_getElem (by rw [hl]; exact hi)⟩
  obtain ⟨x0, e0⟩ := get 0 (by omega)
  obtain ⟨x1, e1⟩ := get 1 (by omega)
  have h0 : DataW.trod enc Try.prog W 0 (fun _ => true) true n 3 (([c0, c1].drop 0).take (Try.prog.cellsOf 3)) = xs[0]? := hi 0 _ rfl
  have h1 : DataW.trod enc Try.prog W 0 (fun _ => true) true n 3 (([c0, c1].drop 1).take (Try.prog.cellsOf 3)) = xs[1]? := hi 1 _ rfl
  rw [cells3, e0] at h0
  rw [cells3, e1] at h1
  obtain ⟨z0, rfl, b0⟩ := cell_num h0
  obtain ⟨z1, rfl, b1⟩ := cell_num h1
  exact ⟨z0, z1, rfl, b0, b1⟩
end
end
end Go.Proofs.Ytfcoblapbcdaiaa
