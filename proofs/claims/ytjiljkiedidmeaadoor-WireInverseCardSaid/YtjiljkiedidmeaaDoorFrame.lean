/- How the arguments of the wire laws read as data, and what the listed variables give a walk. -/
import Derived.Test.YtjiljkiedidmeaaDoorRows
import Derived.Test.YtjiljkiedidmeaaDoorTie
import Derived.Test.YtjiljkiedidmeaaDoorLists
import Derived.ProofKit
import Derived.OpenShut
import Derived.LaidMore
import Derived.Stop.Joined
import Derived.Stop.LaidErr
import Derived.Lib.LaidTab
import Derived.MakeChecks
import Derived.SliceStrings
import Derived.Lib.SmallJoins
namespace Go.Proofs.YtjiljkiedidmeaaDoor
open Go.ChangeShapes Go.WideShapes Go.ChangeAt Go.RowKit Go.Joins

set_option maxRecDepth 100000
theorem own : ownKnob Tryd.prog.godebug = none := by kernel_rfl
theorem laidOut : laidOutB Tryd.prog = true := by kernel_rfl
theorem cells3 : Tryd.prog.cellsOf 3 = 1 := by kernel_rfl
theorem cells5 : Tryd.prog.cellsOf 5 = 1 := by kernel_rfl
theorem cells9 : Tryd.prog.cellsOf 9 = 1 := by kernel_rfl
theorem cells22 : Tryd.prog.cellsOf 22 = 1 := by kernel_rfl
theorem cells23 : Tryd.prog.cellsOf 23 = 1 := by kernel_rfl
theorem cells45 : Tryd.prog.cellsOf 45 = 5 := by kernel_rfl
theorem cells80 : Tryd.prog.cellsOf 80 = 1 := by kernel_rfl
theorem cells114 : Tryd.prog.cellsOf 114 = 1 := by kernel_rfl

/-- The listed variables. -/
abbrev laidAll : List (String × DataW Unit) := [("math/bits.deBruijn32tab", Rows.laid_math_bits_deBruijn32tab), ("math/bits.deBruijn64tab", Rows.laid_math_bits_deBruijn64tab), ("internal/strconv.uint64pow10", Rows.laid_internal_strconv_uint64pow10), ("strconv.ErrRange", Rows.laid_strconv_ErrRange), ("strconv.ErrSyntax", Rows.laid_strconv_ErrSyntax)]

theorem gSynType : (Tryd.prog.globals[2]?).map (·.type) = some 70 := by kernel_rfl
theorem gRngType : (Tryd.prog.globals[3]?).map (·.type) = some 70 := by kernel_rfl
theorem star : "*" ++ "errors.errorString" = "*errors.errorString" := by decide
theorem row112 (u : TypeId) (h : Tryd.prog.typeName? 3 u = some "*errors.errorString") : u = 112 :=
  typeName_ptr_named (nm := "errors.errorString") (by rw [star]; kernel_rfl) (by kernel_rfl) (by decide) u (by rw [star]; exact h)

theorem pow_tab : Lib.pow10Tab = [1, 10, 100, 1000, 10000, 100000, 1000000, 10000000, 100000000, 1000000000, 10000000000, 100000000000, 1000000000000, 10000000000000, 100000000000000, 1000000000000000, 10000000000000000, 100000000000000000, 1000000000000000000, 10000000000000000000] := by decide +kernel
theorem laid_pow : (Rows.laid_internal_strconv_uint64pow10 : DataW Unit) = Lib.tabData .u64 Lib.pow10Tab := by rw [pow_tab]; rfl

/-- What the listed variables and the world's shape give every walk. -/
theorem env_of {W : World} (h : laidMetH Tryd.prog laidAll W) (hsh : W.ShapedOpen Tryd.prog) : Env W := by
  rw [MakeChecks.laidMetH_plain _ _ _ (by rfl)] at h
  have h2 := h.tail.tail
  have h3 := h2.tail
  have h4 := h3.tail
  obtain ⟨a3, s3, v3, -, -, -⟩ := laid_sentinel h3 gRng gRngType Tryd.underlying70 row112 Tryd.underlying112 Tryd.underlying114 rfl rfl Tryd.underlying9 cells114 cells9
  obtain ⟨a4, s4, v4, -, -, -⟩ := laid_sentinel h4 gSyn gSynType Tryd.underlying70 row112 Tryd.underlying112 Tryd.underlying114 rfl rfl Tryd.underlying9 cells114 cells9
  refine ⟨?_, ?_, Tryd.laysM145.s1_3 W hsh, ⟨_, _, v4⟩, ⟨_, _, v3⟩⟩
  · have h0 := World.var?_cell gRng v3 0
    have h1 : 3 < W.heap.size := World.block_lt_of_cell? W ⟨3, 0, none⟩ (by simpa using h0)
    omega
  · rw [laid_pow] at h2
    exact Lib.tabIs_of_head gTab (by kernel_rfl) Tryd.underlying96 Tryd.underlying80 cells80 (by kernel_rfl) h2

section
variable {H : Type} {enc : TypeId × Value → H} {W : World}

theorem choose_list {α : Type} (Q : Nat → α → Prop) : ∀ (k : Nat), (∀ i, i < k → ∃ z, Q i z) → ∃ l : List α, l.length = k ∧ ∀ i z, l[i]? = some z → Q i z := by
  intro k
  induction k with
  | zero => intro _; exact ⟨[], rfl, fun i z h => by simp at h⟩
  | succ k ih =>
    intro h
    obtain ⟨l, hl, hq⟩ := ih fun i hi => h i (by omega)
    obtain ⟨z, hz⟩ := h k (by omega)
    refine ⟨l ++ [z], by simp [hl], fun i x hx => ?_⟩
    rcases Nat.lt_or_ge i k with hi | hi
    · rw [List.getElem?_append_left (by omega)] at hx
      exact hq i x hx
    · rw [List.getElem?_append_right (by omega)] at hx
      have e : i = k := by
        rcases Nat.lt_or_ge k i with h2 | h2
        · rw [List.getElem?_eq_none (by simp; omega)] at hx; cases hx
        · omega
      subst e
      simp [hl] at hx
      subst hx; exact hz

/-- A cell that reads as a slice of one-cell elements. -/
theorem cell_row {α : Type} (f : α → Value) (good : α → Prop) {t e : TypeId} {m : Nat} {c : Value} {x : DataW H × List MemPlace} (ht : Tryd.prog.underlying t = some (.slice e)) (hc : Tryd.prog.cellsOf e = 1)
    (step : ∀ (n : Nat) (u : Value) (y : DataW H × List MemPlace), DataW.trod enc Tryd.prog W 0 (fun _ => true) true n e [u] = some y → ∃ z, u = f z ∧ good z)
    (h : DataW.trod enc Tryd.prog W 0 (fun _ => true) true m t [c] = some x) : ∃ l : List α, Row W c (l.map f) ∧ (∀ z ∈ l, good z) ∧ (l.length : Int) ≤ 9223372036854775807 := by
  rcases DataW.trod_slice ht h with ⟨h0, _⟩ | ⟨a, len, cap, elems, rest, n, _, hcs, -, hb, hl, hm, hlen, hel, -, -⟩
  · simp at h0
    subst h0
    exact ⟨[], Row.nil _, by simp, by simp⟩
  · simp at hcs
    subst hcs
    have each : ∀ i, i < len → ∃ z, good z ∧ W.cell? (a.add i) = some (f z) := by
      intro i hi
      have hE := hel i hi
      rw [List.getElem?_eq_getElem (by omega), hc, Nat.mul_one, Option.bind_eq_some_iff] at hE
      obtain ⟨cs', hcs, hy'⟩ := hE
      have : ∃ u, cs' = [u] := by
        have hlen1 : cs'.length = 1 := by
          unfold World.cells? at hcs
          split at hcs
          · simpa using Lib.mapM_length hcs
          · cases hcs
        match cs', hlen1 with
        | [u], _ => exact ⟨u, rfl⟩
      obtain ⟨u, rfl⟩ := this
      obtain ⟨z, rfl, hz⟩ := step n u _ hy'
      exact ⟨z, hz, cell_of_cells?_one hcs⟩
    obtain ⟨l, hll, hq⟩ := choose_list (fun i z => good z ∧ W.cell? (a.add i) = some (f z)) len each
    unfold maxLen at hm
    refine ⟨l, ⟨some a, cap, by simp [hll], by simp [hll, hl], by omega, ?_⟩, fun z hz => ?_, by omega⟩
    · rcases l with _ | ⟨z0, l⟩
      · exact .inl rfl
      · right
        obtain ⟨b, off, spot⟩ := a
        have hspot : spot = none := by simpa [Addr.add] using World.cell?_spot (hq 0 z0 rfl).2
        subst hspot
        refine ⟨b, off, rfl, fun i u hu => ?_⟩
        rw [List.getElem?_map] at hu
        cases hz : (z0 :: l)[i]? with
        | none => rw [hz] at hu; cases hu
        | some z =>
          rw [hz] at hu
          obtain rfl := Option.some.inj hu
          rw [← add_plain]; exact (hq i z hz).2
    · obtain ⟨i, hi⟩ := List.getElem?_of_mem hz
      exact (hq i z hi).1

theorem cell_int {m : Nat} {c : Value} {x : DataW H × List MemPlace} (h : DataW.trod enc Tryd.prog W 0 (fun _ => true) true m 3 [c] = some x) : ∃ z, c = .int .i64 z ∧ InI z := by
  obtain ⟨z, hz, _, wf⟩ := DataW.trod_int Tryd.underlying3 h
  simp at hz
  simp [Lit.wf, IntKind.min, IntKind.max, IntKind.bits, IntKind.signed] at wf
  exact ⟨z, hz, by unfold InI; omega⟩
theorem cell_u8 {m : Nat} {c : Value} {x : DataW H × List MemPlace} (h : DataW.trod enc Tryd.prog W 0 (fun _ => true) true m 5 [c] = some x) : ∃ z : Nat, c = .int .u8 (z : Int) ∧ z < 256 := by
  obtain ⟨z, hz, _, wf⟩ := DataW.trod_int Tryd.underlying5 h
  simp at hz
  simp [Lit.wf, IntKind.min, IntKind.max, IntKind.bits, IntKind.signed] at wf
  refine ⟨z.toNat, ?_, by omega⟩
  rw [hz, Int.toNat_of_nonneg (by omega)]
theorem cell_byte {m : Nat} {c : Value} {x : DataW H × List MemPlace} (h : DataW.trod enc Tryd.prog W 0 (fun _ => true) true m 5 [c] = some x) : ∃ z : UInt8, c = .int .u8 (z.toNat : Int) ∧ True := by
  obtain ⟨z, hz, hl⟩ := cell_u8 h
  refine ⟨UInt8.ofNat z, ?_, trivial⟩
  rw [hz, UInt8.toNat_ofNat_of_lt' hl]
theorem cell_text {m : Nat} {c : Value} {x : DataW H × List MemPlace} (h : DataW.trod enc Tryd.prog W 0 (fun _ => true) true m 9 [c] = some x) : ∃ s : List UInt8, c = str s ∧ (s.length : Int) ≤ 9223372036854775807 := by
  obtain ⟨s, hs, _, hb⟩ := DataW.trod_string Tryd.underlying9 h
  simp at hs
  unfold maxLen at hb
  refine ⟨s.data.toList, hs, ?_⟩
  have e : s.data.toList.length = s.size := rfl
  rw [e]
  exact Int.ofNat_le.2 hb
theorem cell_ints {m : Nat} {c : Value} {x : DataW H × List MemPlace} (h : DataW.trod enc Tryd.prog W 0 (fun _ => true) true m 22 [c] = some x) :
    ∃ l : List Int, Row W c (ints l) ∧ (∀ z ∈ l, InI z) ∧ (l.length : Int) ≤ 9223372036854775807 :=
  cell_row (Value.int .i64) InI Tryd.underlying22 cells3 (fun _ _ _ h => cell_int h) h
theorem cell_strs {m : Nat} {c : Value} {x : DataW H × List MemPlace} (h : DataW.trod enc Tryd.prog W 0 (fun _ => true) true m 23 [c] = some x) :
    ∃ l : List (List UInt8), Row W c (strs l) ∧ (∀ z ∈ l, (z.length : Int) ≤ 9223372036854775807) ∧ (l.length : Int) ≤ 9223372036854775807 :=
  cell_row str (fun s => (s.length : Int) ≤ 9223372036854775807) Tryd.underlying23 cells9 (fun _ _ _ h => cell_text h) h

/-- The five cells of a Value. -/
theorem cells_value {m : Nat} {c0 c1 c2 c3 c4 : Value} {x : DataW H × List MemPlace} (h : DataW.trod enc Tryd.prog W 0 (fun _ => true) true m 45 [c0, c1, c2, c3, c4] = some x) :
    ∃ (n : Nat) (N : Int) (s : List UInt8) (l : List Int) (t : List (List UInt8)), c0 = .int .u8 (n : Int) ∧ c1 = .int .i64 N ∧ c2 = str s ∧ n < 256 ∧ InI N ∧ (s.length : Int) ≤ 9223372036854775807 ∧
      Row W c3 (ints l) ∧ Row W c4 (strs t) ∧ (∀ z ∈ l, InI z) ∧ (∀ z ∈ t, (z.length : Int) ≤ 9223372036854775807) := by
  obtain ⟨xs, k, _, _, _, hl, hi⟩ := DataW.trod_struct Tryd.underlying45 h
  have get : ∀ i, i < 5 → ∃ x, xs[i]? = some x := fun i hi => ⟨_, List.getElem?_eq_getElem (by rw [hl]; exact hi)⟩
  obtain ⟨x0, e0⟩ := get 0 (by omega)
  obtain ⟨x1, e1⟩ := get 1 (by omega)
  obtain ⟨x2, e2⟩ := get 2 (by omega)
  obtain ⟨x3, e3⟩ := get 3 (by omega)
  obtain ⟨x4, e4⟩ := get 4 (by omega)
  have h0 : DataW.trod enc Tryd.prog W 0 (fun _ => true) true k 5 (([c0, c1, c2, c3, c4].drop 0).take (Tryd.prog.cellsOf 5)) = xs[0]? := hi 0 _ rfl
  have h1 : DataW.trod enc Tryd.prog W 0 (fun _ => true) true k 3 (([c0, c1, c2, c3, c4].drop 1).take (Tryd.prog.cellsOf 3)) = xs[1]? := hi 1 _ rfl
  have h2 : DataW.trod enc Tryd.prog W 0 (fun _ => true) true k 9 (([c0, c1, c2, c3, c4].drop 2).take (Tryd.prog.cellsOf 9)) = xs[2]? := hi 2 _ rfl
  have h3 : DataW.trod enc Tryd.prog W 0 (fun _ => true) true k 22 (([c0, c1, c2, c3, c4].drop 3).take (Tryd.prog.cellsOf 22)) = xs[3]? := hi 3 _ rfl
  have h4 : DataW.trod enc Tryd.prog W 0 (fun _ => true) true k 23 (([c0, c1, c2, c3, c4].drop 4).take (Tryd.prog.cellsOf 23)) = xs[4]? := hi 4 _ rfl
  rw [cells5, e0] at h0
  rw [cells3, e1] at h1
  rw [cells9, e2] at h2
  rw [cells22, e3] at h3
  rw [cells23, e4] at h4
  obtain ⟨n, rfl, hn⟩ := cell_u8 h0
  obtain ⟨N, rfl, hN⟩ := cell_int h1
  obtain ⟨s, rfl, hs⟩ := cell_text h2
  obtain ⟨l, hl, hl2, -⟩ := cell_ints h3
  obtain ⟨t, ht, ht2, -⟩ := cell_strs h4
  exact ⟨n, N, s, l, t, rfl, rfl, rfl, hn, hN, hs, hl, ht, hl2, ht2⟩

section
variable {r : Reach} {b0 : Nat} {v : Value} {d : DataW H} {p : List MemPlace}
theorem arg_ints (hv : Value.okWide Tryd.prog W r b0 22 v) (h : DataW.Trod enc Tryd.prog W 0 (fun _ => true) true 22 v d p) :
    ∃ l : List Int, Row W v (ints l) ∧ (∀ z ∈ l, InI z) ∧ (l.length : Int) ≤ 9223372036854775807 := by
  obtain ⟨a, len, cap, rfl⟩ := okWide_slice Tryd.underlying22 hv
  obtain ⟨m, hf⟩ := h
  exact cell_ints hf
theorem arg_strs (hv : Value.okWide Tryd.prog W r b0 23 v) (h : DataW.Trod enc Tryd.prog W 0 (fun _ => true) true 23 v d p) :
    ∃ l : List (List UInt8), Row W v (strs l) ∧ (∀ z ∈ l, (z.length : Int) ≤ 9223372036854775807) ∧ (l.length : Int) ≤ 9223372036854775807 := by
  obtain ⟨a, len, cap, rfl⟩ := okWide_slice Tryd.underlying23 hv
  obtain ⟨m, hf⟩ := h
  exact cell_strs hf
theorem arg_bytes (hv : Value.okWide Tryd.prog W r b0 31 v) (h : DataW.Trod enc Tryd.prog W 0 (fun _ => true) true 31 v d p) :
    ∃ l : List UInt8, Row W v (l.map fun c => .int .u8 (c.toNat : Int)) := by
  obtain ⟨a, len, cap, rfl⟩ := okWide_slice Tryd.underlying31 hv
  obtain ⟨m, hf⟩ := h
  obtain ⟨l, hl, -, -⟩ := cell_row (fun c : UInt8 => Value.int .u8 (c.toNat : Int)) (fun _ => True) Tryd.underlying31 cells5 (fun _ _ _ h => cell_byte h) hf
  exact ⟨l, hl⟩
theorem arg_text (hv : Value.okWide Tryd.prog W r b0 9 v) (h : DataW.Trod enc Tryd.prog W 0 (fun _ => true) true 9 v d p) :
    ∃ s : List UInt8, v = .string ⟨s.toArray⟩ ∧ (s.length : Int) ≤ 9223372036854775807 := by
  obtain ⟨s, rfl⟩ := okWide_string Tryd.underlying9 hv
  obtain ⟨m, hf⟩ := h
  exact cell_text hf
theorem arg_u8 (hv : Value.okWide Tryd.prog W r b0 5 v) (h : DataW.Trod enc Tryd.prog W 0 (fun _ => true) true 5 v d p) : ∃ n : Nat, v = .int .u8 (n : Int) ∧ n < 256 := by
  obtain ⟨z, rfl⟩ := okWide_int Tryd.underlying5 hv
  obtain ⟨m, hf⟩ := h
  exact cell_u8 hf
theorem arg_u16 (hv : Value.okWide Tryd.prog W r b0 48 v) (h : DataW.Trod enc Tryd.prog W 0 (fun _ => true) true 48 v d p) : ∃ n : Nat, v = .int .u16 (n : Int) ∧ n < 65536 := by
  obtain ⟨z, rfl⟩ := okWide_int Tryd.underlying48 hv
  obtain ⟨m, hf⟩ := h
  obtain ⟨y, hy, _, wf⟩ := DataW.trod_int Tryd.underlying48 hf
  simp [Value.cells] at hy
  subst hy
  simp [Lit.wf, IntKind.min, IntKind.max, IntKind.bits, IntKind.signed] at wf
  refine ⟨z.toNat, ?_, by omega⟩
  rw [Int.toNat_of_nonneg (by omega)]
theorem array5 {α : Type} {cs : Array α} (h : cs.size = 5) : ∃ c0 c1 c2 c3 c4, cs = #[c0, c1, c2, c3, c4] := by
  obtain ⟨l⟩ := cs
  match l, h with
  | [c0, c1, c2, c3, c4], _ => exact ⟨c0, c1, c2, c3, c4, rfl⟩
theorem arg_value (hv : Value.okWide Tryd.prog W r b0 45 v) (h : DataW.Trod enc Tryd.prog W 0 (fun _ => true) true 45 v d p) :
    ∃ (n : Nat) (N : Int) (s : List UInt8) (vl vt : Value) (l : List Int) (t : List (List UInt8)), v = .agg #[.int .u8 (n : Int), .int .i64 N, .string ⟨s.toArray⟩, vl, vt] ∧ InI N ∧ (s.length : Int) ≤ 9223372036854775807 ∧
      Row W vl (ints l) ∧ Row W vt (strs t) ∧ (∀ z ∈ l, InI z) ∧ (∀ z ∈ t, (z.length : Int) ≤ 9223372036854775807) := by
  obtain ⟨cs, rfl, hsz⟩ := okWide_struct Tryd.underlying45 hv
  obtain ⟨c0, c1, c2, c3, c4, rfl⟩ := array5 (hsz.trans cells45)
  obtain ⟨m, hf⟩ := h
  obtain ⟨n, N, s, l, t, rfl, rfl, rfl, hn, hN, hs, hl, ht, il, it⟩ := cells_value hf
  exact ⟨n, N, s, c3, c4, l, t, rfl, hN, hs, hl, ht, il, it⟩
end
end

/-- The row's step: the walk is told what the listed variables hold. -/
theorem wrap {H : Type} {enc : TypeId × Value → H} {os : Os} {f : FuncId} {fn : Func} {s : ChangeSpec} (started : os.Started) (noInit : Tryd.checked.prog.inits.idxOf? f = none) (hfn : Tryd.checked.prog.funcs[f]? = some fn)
    (witness : ∃ (w : World) (tape : Tape) (i : Input), w.os = os ∧ (w.forCall tape i).Shaped Tryd.checked.prog ∧ i.vars = [] ∧ Input.okWide Tryd.checked.prog (w.forCall tape i) .any w.heap.size f i ∧
      ((s.pre enc Tryd.checked.prog fn [] false (w.forCall tape i).memory i.args ∧ laidMetH Tryd.prog laidAll (w.forCall tape i).memory) ∧ sizedMet enc Tryd.checked.prog fn (OpenSpec.ofChange s) false (w.forCall tape i).memory i.args) ∧ ({} : Assume).holds Tryd.checked.prog (lone (Frame.enter Tryd.checked.prog f i.args .normal) [] (w.forCall tape i)))
    (contract : ∀ (W : World) (base : Nat) (args : Array Value) (ds gs : List (DataW H)) (before : List MemPlace),
      (∀ (j : Nat) t v, fn.params[j]? = some t → args[j]? = some v → Value.okWide Tryd.prog W .any base t v) →
      DataW.Whole enc Tryd.prog fn.params.toList s.vars false W args.toList ds gs before → Env W →
      Calls Tryd.prog f args W fun e W' => ∃ v, e = .returned v ∧ s.post enc Tryd.prog fn false true false false W args v W') :
    ReturnsInHanded {} Tryd.checked os f .any (fun w args => (s.pre enc Tryd.checked.prog fn [] false w args ∧ laidMetH Tryd.prog laidAll w) ∧ sizedMet enc Tryd.checked.prog fn (OpenSpec.ofChange s) false w args) (s.post enc Tryd.checked.prog fn false true false false) := by
  refine returnsInHanded_of_calls own started noInit witness ?_
  intro w tape i _ hsh _ hok hpre _
  obtain ⟨_, _, _, fn', hfn', _, _, _, _, hval⟩ := hok
  have e : fn' = fn := Option.some.inj (hfn'.symm.trans hfn)
  subst e
  obtain ⟨⟨⟨ds, gs, before, hw, _⟩, hx⟩, _⟩ := hpre
  have hw' := DataW.Whole.of_heap (w' := w.forCall tape i) (by rfl) hw
  refine (contract (w.forCall tape i) w.heap.size i.args ds gs before hval hw' (env_of (hx.of_heap (by rfl)) hsh)).mono fun e W' ⟨v, he, hp⟩ => ?_
  subst he
  exact ChangeSpec.post_blind hp

/-- The door's own heap meets the condition. -/
theorem door_met (os : Os) (args : Array Value) : laidMetH Tryd.prog laidAll ((World.doorLaid Tryd.prog 62 os).forCall (fun _ _ => 0) ⟨#[], args, []⟩).memory :=
  laidMetH_of_parts3 (fuel := 8) (laidMet_of_run' 8 (by kernel_rfl) (by kernel_rfl)) (by kernel_rfl) (by kernel_rfl)
end Go.Proofs.YtjiljkiedidmeaaDoor
