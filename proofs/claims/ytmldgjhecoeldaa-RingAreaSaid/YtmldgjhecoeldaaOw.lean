/- line.Length. The reference: Length. Lists: whether two are equal. Lists of points that the call made itself: to append to them. -/
import Derived.Maps.AppendAt
import Derived.Laws.OwnMore
import Derived.WideShapes
import Derived.Test.YtmldgjhecoeldaaAny
namespace Go.Proofs.Ytmldgjhecoeldaa
open Go.RowKit Go.Lib

/-- The length of a segment, rounded down; of the first k. -/
def lenD (a0 a1 b0 b1 : Int) : Int := wrap64 (wrap64 (wrap64 (b0 - a0) * wrap64 (b0 - a0)) + wrap64 (wrap64 (b1 - a1) * wrap64 (b1 - a1)))
def lenS (ps : List (Int × Int)) (k : Nat) : Int := rootOf (lenD (pt ps k).1 (pt ps k).2 (pt ps (k + 1)).1 (pt ps (k + 1)).2)
def lenTo (ps : List (Int × Int)) : Nat → Int
  | 0 => 0
  | k + 1 => wrap64 (lenTo ps k + lenS ps k)
def lengthP (ps : List (Int × Int)) : Int := lenTo ps (ps.length - 1)
theorem wrap_64 (x : Int) : IntKind.i64.wrap x = wrap64 x := IntWalk.i64_left x
theorem wrap_le (x : Int) : wrap64 x ≤ 9223372036854775807 := by unfold wrap64; omega

theorem sub_is (a b c d s t : Int) (h : wrap64 (a - c) = s) (k : wrap64 (b - d) = t) (w : World) :
    Calls Try.prog 68 #[.agg #[.int .i64 a, .int .i64 b], .agg #[.int .i64 c, .int .i64 d]] w fun e w' => e = .returned (.agg #[.int .i64 s, .int .i64 t]) ∧ Below w.heap.size w w' := by subst h k; exact sub_any a b c d w
theorem rsub_is (a b c d s t : Int) (h : wrap64 (a - c) = s) (k : wrap64 (b - d) = t) (w : World) :
    Calls Try.prog 70 #[.agg #[.int .i64 a, .int .i64 b], .agg #[.int .i64 c, .int .i64 d]] w fun e w' => e = .returned (.agg #[.int .i64 s, .int .i64 t]) ∧ Below w.heap.size w w' := by subst h k; exact rsub_any a b c d w
end Go.Proofs.Ytmldgjhecoeldaa

namespace Go.Proofs.Ytmldgjhecoeldaa
open Go.RowKit Go.Lib

end Go.Proofs.Ytmldgjhecoeldaa

namespace Go.Proofs.Ytmldgjhecoeldaa
open Go.RowKit Go.Lib

/-- Whether two lists are equal. -/
def sameP (l m : List (Int × Int)) : Bool := decide (l = m)
theorem sameP_len {l m : List (Int × Int)} (h : ¬ l.length = m.length) : sameP l m = false := by unfold sameP; exact decide_eq_false (fun e => h (by rw [e]))
theorem sameP_at {l m : List (Int × Int)} {k : Nat} {x y x' y' : Int} (h : l[k]? = some (x, y)) (h' : m[k]? = some (x', y')) (hd : decide ((x, y) = (x', y')) = false) : sameP l m = false := by
  unfold sameP
  refine decide_eq_false (fun e => ?_)
  subst e
  rw [h] at h'
  simp at h' hd
  exact hd h'.1 h'.2
theorem sameP_all {l m : List (Int × Int)} (hl : l.length = m.length) (h : l.take l.length = m.take l.length) : sameP l m = true := by
  unfold sameP
  rw [List.take_length, hl, List.take_length] at h
  exact decide_eq_true h
theorem take_same {l m : List (Int × Int)} {k : Nat} {x y x' y' : Int} (h : l[k]? = some (x, y)) (h' : m[k]? = some (x', y')) (hd : decide ((x, y) = (x', y')) = true) (ht : l.take k = m.take k) : l.take (k + 1) = m.take (k + 1) := by
  rw [List.take_add_one, List.take_add_one, h, h', ht, of_decide_eq_true hd]

end Go.Proofs.Ytmldgjhecoeldaa

namespace Go.Proofs.Ytmldgjhecoeldaa
open Go.RowKit Go.Lib

theorem info24 : (Try.prog.info? 24).map (fun i => (i.zero, i.size, i.bytes)) = some (some (.agg #[.int .i64 0, .int .i64 0]), 2, 16) := by kernel_rfl
theorem flat_length (ps : List (Int × Int)) : (flat ps).length = ps.length * 2 := by
  induction ps with
  | nil => rfl
  | cons p t ih => simp only [flat, List.length_cons, ih]; omega
theorem flat_append (ps qs : List (Int × Int)) : flat (ps ++ qs) = flat ps ++ flat qs := by
  induction ps with
  | nil => rfl
  | cons p t ih => simp only [flat, List.cons_append, ih]
theorem flat_one (ps : List (Int × Int)) : ∀ u ∈ flat ps, u.oneCell' = true := by
  induction ps with
  | nil => intro u h; cases h
  | cons p t ih =>
    intro u h
    simp only [flat, List.mem_cons] at h
    rcases h with rfl | rfl | h
    · rfl
    · rfl
    · exact ih u h
/-- A list in memory that was made behind block b. -/
def Own (b : Nat) (w : World) (v : Value) (ps : List (Int × Int)) : Prop := w.ownsRow b 24 2 v ps.length (flat ps)
theorem Own.nil (b : Nat) (w : World) : Own b w (.slice none 0 0) [] := World.ownsRow_nil w b 24 2
theorem Own.later {b : Nat} {w w' : World} {v : Value} {ps : List (Int × Int)} (h : Own b w v ps) (g : Grows w w') : Own b w' v ps := by
  refine ⟨h.1, ?_⟩
  rcases h.2 with h2 | ⟨k, cap, cur, h1, h2, h3, h4⟩
  · exact .inl h2
  · exact .inr ⟨k, cap, cur, h1, h2, heap_grows g h3, h4⟩
theorem Own.row {b : Nat} {w : World} {v : Value} {ps : List (Int × Int)} (h : Own b w v ps) : RowP w v ps := by
  have hh := h
  rcases h.2 with ⟨rfl, h2⟩ | ⟨k, cap, cur, rfl, h2, h3, h4, h5, h6, h7⟩
  · have : ps = [] := List.eq_nil_of_length_eq_zero h2
    subst this
    exact ⟨none, 0, rfl, by simp, by simp, .inl rfl⟩
  · refine ⟨some ⟨k, 0, none⟩, cap, rfl, h4, by unfold maxLen at h5; omega, .inr ⟨k, 0, rfl, fun i p hp => ?_⟩⟩
    have hc := World.ownsRow.cells hh (g := k) rfl
    have c0 := hc _ _ (flat_at hp).1
    have c1 := hc _ _ (flat_at hp).2
    rw [Go.WideShapes.add_plain] at c0 c1
    rw [Nat.add_assoc]
    exact ⟨c0, c1⟩
theorem RowP.small {w : World} {a : Option Addr} {n c : Nat} {ps : List (Int × Int)} (h : RowP w (.slice a n c) ps) : n = ps.length := h.len.1

set_option maxRecDepth 100000 in
theorem run_append_own {w : World} {b : Nat} {v vx : Value} {ps qs : List (Int × Int)} (ty : TypeId) (h : Own b w v ps) (hx : RowP w vx qs) (hn : ps.length + qs.length ≤ 100000) (hb : b ≤ w.heap.size) :
    ∃ v' w', (Builtin.append_ #[25, 25] ty #[v, vx]).run Try.prog w = .ok v' w' ∧ Own b w' v' (ps ++ qs) ∧ w.grownBy w' v.ownBlock := by
  obtain ⟨i0, hi, hz0, hz1, hz2⟩ := info_parts info24
  obtain ⟨a, cap, rfl, h1, h2, h3⟩ := hx
  unfold Own
  rw [List.length_append, flat_append]
  rcases a with _ | ad
  · have h0 : qs = [] := by
      rcases h3 with h3 | ⟨b, o, h3, _⟩
      · exact h3
      · cases h3
    subst h0
    refine ⟨v, w, ?_, by simpa [flat] using (show w.ownsRow b 24 2 v ps.length (flat ps) from h), World.grownBy.refl w _⟩
    have hu := run_underlying (P := Try.prog) Try.underlying25
    rcases h.2 with ⟨rfl, h2⟩ | ⟨g, cap, cur, rfl, -, -, hle, -⟩
    · simp [Builtin.append_, hu, sizeOf, typeInfo, hi, Builtin.lenOf, Builtin.firstCells]
    · simp [Builtin.append_, hu, sizeOf, typeInfo, hi, Builtin.lenOf, Builtin.firstCells, hle, storeCells]
  · have hcells : ∀ j u, (flat qs)[j]? = some u → w.cell? (ad.add j) = some u := by
      intro j u hu
      rcases h3 with h3 | ⟨b, o, h3, h4⟩
      · rw [h3] at hu; simp [flat] at hu
      · obtain rfl := Option.some.inj h3
        have ee := Go.WideShapes.add_plain b o j
        rw [ee]
        have hj : j < qs.length * 2 := by rw [← flat_length]; exact (List.getElem?_eq_some_iff.1 hu).1
        have hp := at_pt (ps := qs) (k := j / 2) (by omega)
        obtain ⟨e0, e1⟩ := flat_at hp
        obtain ⟨c0, c1⟩ := h4 _ _ hp
        rcases Nat.mod_two_eq_zero_or_one j with hm | hm
        · rw [show j / 2 * 2 = j by omega] at e0 c0
          rw [e0] at hu
          rw [← hu]
          exact c0
        · rw [show j / 2 * 2 + 1 = j by omega] at e1
          rw [show o + j / 2 * 2 + 1 = o + j by omega] at c1
          rw [e1] at hu
          rw [← hu]
          exact c1
    obtain ⟨v', w', e1, e2, e3, -, -⟩ := run_append_own_at (P := Try.prog) w b 25 ty 24 i0 (.agg #[.int .i64 0, .int .i64 0]) 2 16 Try.underlying25 hi hz0 hz1 hz2 rfl (by decide) v ps.length (flat ps) h ad qs.length cap (flat qs) (by rw [flat_length]) hcells (flat_one qs)
      (by unfold maxLen; omega) (by omega) hb
    exact ⟨v', w', e1, e2, e3⟩
/-- What else was made stays as it is. -/
theorem Has.grown {w W W' : World} {bs : List (Nat × List Value)} {b : Nat} {v : Value} {ps : List (Int × Int)} (h : Has w bs W) (ho : Own b W v ps) (hb : ∀ p ∈ bs, p.1 < b) (hw : w.heap.size ≤ b) (hg : W.grownBy W' v.ownBlock) : Has w bs W' := by
  have hk : ∀ k, v.ownBlock = some k → b ≤ k := fun k e => (World.ownsRow.lt ho k e).1
  have hB : ∀ k, k < b → k < W.heap.size → W'.heap[k]? = W.heap[k]? := fun k h1 h2 => hg.block k h2 (fun e => by have := hk k e.symm; omega)
  refine ⟨fun p hp i u hu => ?_, fun p hp => Nat.lt_of_lt_of_le (h.lt p hp) hg.size, h.ge, h.nd, h.low.grown hg h.low.size (fun k e => by have := hk k e; omega)⟩
  obtain ⟨c1, c2⟩ := h.c p hp i u hu
  have hblock := hB p.1 (hb p hp) (h.lt p hp)
  constructor
  · rw [← c1]; unfold World.cell?; simp only [hblock]
  · rw [← c2]; unfold World.frozen?; simp only [hblock]
/-- At an operation of a plain region. -/
theorem wpList_append_pts {ops : Array Oper} {rest : List Oper} {o : Oper} {a : Act} {w : World} {Q : Exit → Act → World → Prop} (hgd : o.guard = none) (s x : Operand)
    (ho : o.op = .call { callee := .builtin .append, args := #[s, x], argTypes := #[25, 25] }) {b : Nat} {v vx : Value} {ps qs : List (Int × Int)} (hs : a.eval s = v) (h : Own b w v ps)
    (hx : a.eval x = vx) (hr : RowP w vx qs) (hn : ps.length + qs.length ≤ 100000) (hb : b ≤ w.heap.size)
    (hK : ∀ v' w', Own b w' v' (ps ++ qs) → w.grownBy w' v.ownBlock → wpList Try.prog ops Q rest (a.put o.dst v') w') : wpList Try.prog ops Q (o :: rest) a w := by
  refine wpList_plain hgd fun K hK' => ?_
  obtain ⟨v', w', e1, e2, e3⟩ := run_append_own o.type h hr hn hb
  unfold Oper.wp execOp
  simp only [ho, resolve, invoke, builtin, Sem.run_bind, Sem.run_pure, Result.andThen_ok, List.map_toArray, List.map_cons, List.map_nil, hs, hx, e1]
  exact hK' _ _ (hK v' w' e2 e3)

end Go.Proofs.Ytmldgjhecoeldaa
