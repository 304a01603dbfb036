/- Lists in memory, of any kind of elements: those that came in, and those that the call made itself, which can be appended to. -/
import Derived.Test.YtfcoblapbcdaiaaH
import Derived.Maps.AppendAt
import Derived.OwnWalk
import Derived.Sort.Defs
import Derived.Shelf.RegionOpen
namespace Go.Proofs.Ytfcoblapbcdaiaa
open Go.RowKit Go.Lib Go.Sort

/-- A kind of elements: their cells, how many, the types of lists and of elements, the zero value, the bytes. -/
structure Ty (α : Type) where
  enc : α → List Value
  k : Nat
  t : TypeId
  e : TypeId
  z : Value
  by_ : Nat
structure Ty.Ok {α : Type} (T : Ty α) : Prop where
  hk : ∀ x, (T.enc x).length = T.k
  h1 : ∀ x, ∀ v ∈ T.enc x, v.oneCell' = true
  hpos : 0 < T.k
  hby : T.by_ ≤ 1000
  ht : Try.prog.underlying T.t = some (.slice T.e)
  hinfo : (Try.prog.info? T.e).map (fun i => (i.zero, i.size, i.bytes)) = some (some T.z, T.k, T.by_)
  hz : T.z.cells.size = T.k

section
variable {α : Type} {T : Ty α}
theorem flat_length (hT : T.Ok) (xs : List α) : (xs.flatMap T.enc).length = xs.length * T.k := by
  induction xs with
  | nil => simp
  | cons x xs ih => rw [List.flatMap_cons, List.length_append, ih, hT.hk, List.length_cons, Nat.succ_mul]; omega
theorem flat_at (hT : T.Ok) : ∀ {xs : List α} {i j : Nat} {x : α} {u : Value}, xs[i]? = some x → (T.enc x)[j]? = some u → (xs.flatMap T.enc)[i * T.k + j]? = some u
  | [], _, _, _, _, h, _ => by simp at h
  | y :: ys, 0, j, x, u, h, g => by
    simp only [List.getElem?_cons_zero, Option.some.injEq] at h
    subst h
    rw [List.flatMap_cons, Nat.zero_mul, Nat.zero_add, List.getElem?_append_left (List.getElem?_eq_some_iff.1 g).1]
    exact g
  | y :: ys, i + 1, j, x, u, h, g => by
    rw [List.getElem?_cons_succ] at h
    rw [List.flatMap_cons, List.getElem?_append_right (by rw [hT.hk, Nat.succ_mul]; omega), hT.hk, Nat.succ_mul]
    have := flat_at hT h g
    rwa [show i * T.k + T.k + j - T.k = i * T.k + j by omega]
def Row (T : Ty α) (w : World) (v : Value) (xs : List α) : Prop :=
  ∃ a cap, v = .slice a xs.length cap ∧ xs.length ≤ cap ∧ (cap : Int) ≤ 9223372036854775807 ∧ (xs = [] ∨ ∃ b o, a = some ⟨b, o, none⟩ ∧ ∀ j u, (xs.flatMap T.enc)[j]? = some u → w.cell? ⟨b, o + j, none⟩ = some u)
theorem Row.later {w w' : World} {v : Value} {xs : List α} (h : Row T w v xs) (g : Grows w w') : Row T w' v xs := by
  obtain ⟨a, cap, h1, h2, h3, h4⟩ := h
  refine ⟨a, cap, h1, h2, h3, h4.imp id ?_⟩
  rintro ⟨b, o, e, h⟩
  exact ⟨b, o, e, fun j u hu => (g.cell (p := ⟨b, o + j, none⟩) (World.block_lt_of_cell? w _ (h j u hu))).trans (h j u hu)⟩
theorem Row.nil (w : World) : Row T w (.slice none 0 0) [] := ⟨none, 0, rfl, Nat.le_refl _, by simp, .inl rfl⟩
theorem Row.form {w : World} {v : Value} {xs : List α} (h : Row T w v xs) : ∃ a n c, v = .slice a n c ∧ xs.length = n ∧ n ≤ c ∧ (c : Int) ≤ 9223372036854775807 ∧ Row T w (.slice a n c) xs := by
  have h0 := h
  obtain ⟨a, c, rfl, h1, h2, -⟩ := h0
  exact ⟨a, _, c, rfl, rfl, h1, h2, h⟩
theorem Row.spot {w : World} {a : Option Addr} {n c : Nat} {xs : List α} (hT : T.Ok) (h : Row T w (.slice a n c) xs) (hp : 0 < xs.length) :
    ∃ b o, a = some ⟨b, o, none⟩ ∧ ∀ i x j u, xs[i]? = some x → (T.enc x)[j]? = some u → w.cell? ⟨b, o + i * T.k + j, none⟩ = some u := by
  obtain ⟨a', c', he, -, -, hq⟩ := h
  injection he with e1 _ _
  subst e1
  rcases hq with hq | ⟨b, o, rfl, hq⟩
  · rw [hq] at hp; simp at hp
  · exact ⟨b, o, rfl, fun i x j u hx hu => by rw [Nat.add_assoc]; exact hq _ _ (flat_at hT hx hu)⟩
/-- A part of a row. -/
theorem Row.drop {w : World} {b o n c : Nat} {xs : List α} (hT : T.Ok) (h : Row T w (.slice (some ⟨b, o, none⟩) n c) xs) (k : Nat) (hk : k ≤ xs.length) : Row T w (.slice (some ⟨b, o + k * T.k, none⟩) (n - k) (c - k)) (xs.drop k) := by
  obtain ⟨a', c', he, h1, h2, hq⟩ := h
  injection he with e1 e2 e3
  subst e1; subst e2; subst e3
  refine ⟨_, _, by rw [List.length_drop], by rw [List.length_drop]; omega, by omega, ?_⟩
  rcases hq with hq | ⟨b', o', e, hq⟩
  · left; rw [hq]; simp
  · injection e with e; injection e with e1 e2; subst e1; subst e2
    refine .inr ⟨b, o + k * T.k, rfl, fun j u hu => ?_⟩
    have hd : (xs.drop k).flatMap T.enc = (xs.flatMap T.enc).drop (k * T.k) := by
      conv => rhs; rw [← List.take_append_drop k xs, List.flatMap_append]
      rw [List.drop_append_of_le_length (by rw [flat_length hT, List.length_take, Nat.min_eq_left hk]; exact Nat.le_refl _), List.drop_of_length_le (l := (xs.take k).flatMap T.enc) (by rw [flat_length hT, List.length_take, Nat.min_eq_left hk]; exact Nat.le_refl _), List.nil_append]
    rw [hd, List.getElem?_drop] at hu
    rw [Nat.add_assoc]; exact hq _ _ hu
theorem Row.take {w : World} {a : Option Addr} {n c : Nat} {xs : List α} (h : Row T w (.slice a n c) xs) (k : Nat) (hk : k ≤ xs.length) : Row T w (.slice a k c) (xs.take k) := by
  obtain ⟨a', c', he, h1, h2, hq⟩ := h
  injection he with e1 e2 e3
  subst e1; subst e2; subst e3
  refine ⟨_, _, by rw [List.length_take, Nat.min_eq_left hk], by rw [List.length_take]; omega, h2, ?_⟩
  rcases hq with hq | ⟨b', o', e, hq⟩
  · left; rw [hq]; simp
  · refine .inr ⟨b', o', e, fun j u hu => hq j u ?_⟩
    have hd : xs.flatMap T.enc = (xs.take k).flatMap T.enc ++ (xs.drop k).flatMap T.enc := by rw [← List.flatMap_append, List.take_append_drop]
    rw [hd, List.getElem?_append_left (List.getElem?_eq_some_iff.1 hu).1]; exact hu

def Own (T : Ty α) (b : Nat) (w : World) (v : Value) (xs : List α) : Prop := w.ownsRow b T.e T.k v xs.length (xs.flatMap T.enc)
theorem Own.nil (b : Nat) (w : World) : Own T b w (.slice none 0 0) [] := World.ownsRow_nil w b T.e T.k
theorem heap_grows {A B : World} {i : Nat} {o : Obj} (h : Grows A B) (ho : A.heap[i]? = some o) : B.heap[i]? = some o :=
  (h.block i (Array.getElem?_eq_some_iff.1 ho).1).trans ho
theorem Own.later {b : Nat} {w w' : World} {v : Value} {xs : List α} (h : Own T b w v xs) (g : Grows w w') : Own T b w' v xs := by
  refine ⟨h.1, ?_⟩
  rcases h.2 with h2 | ⟨k, cap, cur, h1, h2, h3, h4⟩
  · exact .inl h2
  · exact .inr ⟨k, cap, cur, h1, h2, heap_grows g h3, h4⟩
theorem Own.base {b b' : Nat} {w : World} {v : Value} {xs : List α} (h : Own T b w v xs) (hb : b' ≤ b) : Own T b' w v xs := ⟨h.1, h.2.imp id (fun ⟨k, cap, cur, h1, h2, h3⟩ => ⟨k, cap, cur, h1, Nat.le_trans hb h2, h3⟩)⟩
theorem Own.row {b : Nat} {w : World} {v : Value} {xs : List α} (h : Own T b w v xs) : Row T w v xs := by
  have hh := h
  rcases h.2 with ⟨rfl, h2⟩ | ⟨k, cap, cur, rfl, h2, h3, h4, h5, h6, h7⟩
  · have : xs = [] := List.eq_nil_of_length_eq_zero h2
    subst this
    exact Row.nil w
  · refine ⟨some ⟨k, 0, none⟩, cap, rfl, h4, by unfold maxLen at h5; omega, .inr ⟨k, 0, rfl, fun j u hu => ?_⟩⟩
    have hc := World.ownsRow.cells hh (g := k) rfl j u hu
    rw [Go.WideShapes.add_plain] at hc
    exact hc
theorem Own.form {b : Nat} {w : World} {v : Value} {xs : List α} (h : Own T b w v xs) : ∃ a c, v = .slice a xs.length c ∧ xs.length ≤ c ∧ (c : Int) ≤ 9223372036854775807 := by
  obtain ⟨a, c, h1, h2, h3, -⟩ := h.row
  exact ⟨a, c, h1, h2, h3⟩
theorem Own.lt {b : Nat} {w : World} {v : Value} {xs : List α} (h : Own T b w v xs) {k : Nat} (e : v.ownBlock = some k) : b ≤ k ∧ k < w.heap.size := World.ownsRow.lt h k e
theorem ownsRow_same {b e size n : Nat} {w w' : World} {v : Value} {xs : List Value} (h : w.ownsRow b e size v n xs) (hs : ∀ k, v.ownBlock = some k → w'.heap[k]? = w.heap[k]?) : w'.ownsRow b e size v n xs := by
  refine ⟨h.1, ?_⟩
  rcases h.2 with h2 | ⟨k, cap, cur, h1, h2, h3, h4⟩
  · exact .inl h2
  · exact .inr ⟨k, cap, cur, h1, h2, (hs k (by rw [h1]; rfl)).trans h3, h4⟩
theorem grows_grow (w : World) (os : Array Obj) : Grows w (Sort.grow w os) :=
  ⟨rfl, rfl, rfl, by show w.heap.size ≤ (w.heap ++ os).size; rw [Array.size_append]; omega, fun k hk => Array.getElem?_append_left hk⟩
set_option maxRecDepth 100000 in
theorem run_append (hT : T.Ok) {w : World} {b : Nat} {v vx : Value} {xs ys : List α} (ty : TypeId) (h : Own T b w v xs) (hx : Row T w vx ys) (hn : xs.length + ys.length ≤ 2000000) (hb : b ≤ w.heap.size) :
    ∃ v' w', (Builtin.append_ #[T.t, T.t] ty #[v, vx]).run Try.prog w = .ok v' w' ∧ Own T b w' v' (xs ++ ys) ∧ w.grownBy w' v.ownBlock ∧ (v'.ownBlock = v.ownBlock ∨ v'.ownBlock = some w.heap.size) := by
  obtain ⟨i0, hi, hz0, hz1, hz2⟩ := info_parts hT.hinfo
  obtain ⟨a, cap, rfl, h1, h2, h3⟩ := hx
  unfold Own
  rw [List.length_append, List.flatMap_append]
  rcases a with _ | ad
  · have h0 : ys = [] := by
      rcases h3 with h3 | ⟨b, o, h3, _⟩
      · exact h3
      · cases h3
    subst h0
    refine ⟨v, w, ?_, by simpa using (show w.ownsRow b T.e T.k v xs.length (xs.flatMap T.enc) from h), World.grownBy.refl w _, .inl rfl⟩
    have hu := run_underlying (P := Try.prog) hT.ht
    rcases h.2 with ⟨rfl, h2⟩ | ⟨g, cap, cur, rfl, -, -, hle, -⟩
    · simp [Builtin.append_, hu, sizeOf, typeInfo, hi, Builtin.lenOf, Builtin.firstCells]
    · simp [Builtin.append_, hu, sizeOf, typeInfo, hi, Builtin.lenOf, Builtin.firstCells, hle, storeCells]
  · have hcells : ∀ j u, (ys.flatMap T.enc)[j]? = some u → w.cell? (ad.add j) = some u := by
      intro j u hu
      rcases h3 with h3 | ⟨b, o, h3, h4⟩
      · rw [h3] at hu; simp at hu
      · obtain rfl := Option.some.inj h3
        rw [Go.WideShapes.add_plain b o j]
        exact h4 j u hu
    have hbb : (xs.length + ys.length) * T.by_ ≤ 140737488355328 := Nat.le_trans (Nat.mul_le_mul hn hT.hby) (by decide)
    obtain ⟨v', w', e1, e2, e3, -, e5⟩ := run_append_own_at (P := Try.prog) w b T.t ty T.e i0 T.z T.k T.by_ hT.ht hi hz0 hz1 hz2 hT.hz hT.hpos v xs.length (xs.flatMap T.enc) h ad ys.length cap (ys.flatMap T.enc) (flat_length hT ys) hcells (by intro u hu; obtain ⟨x, -, hx⟩ := List.mem_flatMap.1 hu; exact hT.h1 x u hx)
      (by unfold maxLen; omega) hbb hb
    exact ⟨v', w', e1, e2, e3, e5⟩
/-- At an operation of a plain region. -/
theorem wpList_append (hT : T.Ok) {ops : Array Oper} {rest : List Oper} {o : Oper} {a : Act} {w : World} {Q : Exit → Act → World → Prop} (hgd : o.guard = none) (s x : Operand)
    (ho : o.op = .call { callee := .builtin .append, args := #[s, x], argTypes := #[T.t, T.t] }) {b : Nat} {v vx : Value} {xs ys : List α} (hs : a.eval s = v) (h : Own T b w v xs)
    (hx : a.eval x = vx) (hr : Row T w vx ys) (hn : xs.length + ys.length ≤ 2000000) (hb : b ≤ w.heap.size)
    (hK : ∀ v' w', Own T b w' v' (xs ++ ys) → w.grownBy w' v.ownBlock → (v'.ownBlock = v.ownBlock ∨ v'.ownBlock = some w.heap.size) → wpList Try.prog ops Q rest (a.put o.dst v') w') : wpList Try.prog ops Q (o :: rest) a w := by
  refine wpList_plain hgd fun K hK' => ?_
  obtain ⟨v', w', e1, e2, e3, e5⟩ := run_append hT o.type h hr hn hb
  unfold Oper.wp execOp
  simp only [ho, resolve, invoke, builtin, Sem.run_bind, Sem.run_pure, Result.andThen_ok, List.map_toArray, List.map_cons, List.map_nil, hs, hx, e1]
  exact hK' _ _ (hK v' w' e2 e3 e5)
theorem step_append (hT : T.Ok) {ops : Array Oper} {o : Oper} {a : Act} {w : World} {K : Act → World → Prop} {Q : Exit → Act → World → Prop} {E : Prop} (hgd : o.guard = none) (s x : Operand)
    (ho : o.op = .call { callee := .builtin .append, args := #[s, x], argTypes := #[T.t, T.t] }) {b : Nat} {v vx : Value} {xs ys : List α} (hs : a.eval s = v) (h : Own T b w v xs)
    (hx : a.eval x = vx) (hr : Row T w vx ys) (hn : xs.length + ys.length ≤ 2000000) (hb : b ≤ w.heap.size)
    (hK : ∀ v' w', Own T b w' v' (xs ++ ys) → w.grownBy w' v.ownBlock → (v'.ownBlock = v.ownBlock ∨ v'.ownBlock = some w.heap.size) → K (a.put o.dst v') w') :
    if Region.wanted o (yielded ops a.tmps) = true then Oper.wp Try.prog o a w K Q else E := by
  have hw : Region.wanted o (yielded ops a.tmps) = true := by simp [Region.wanted, hgd]
  rw [if_pos hw]
  obtain ⟨v', w', e1, e2, e3, e5⟩ := run_append hT o.type h hr hn hb
  unfold Oper.wp execOp
  simp only [ho, resolve, invoke, builtin, Sem.run_bind, Sem.run_pure, Result.andThen_ok, List.map_toArray, List.map_cons, List.map_nil, hs, hx, e1]
  exact hK v' w' e2 e3 e5
theorem grow_append {w W W' : World} {b : Nat} {v : Value} {xs : List α} (g : Grows w W) (ho : Own T b W v xs) (hb : w.heap.size ≤ b) (hg : W.grownBy W' v.ownBlock) : Grows w W' :=
  ⟨hg.os.trans g.os, hg.tape.trans g.tape, hg.output.trans g.output, Nat.le_trans g.size hg.size, fun k hk => by
    rw [hg.block k (Nat.lt_of_lt_of_le hk g.size) (fun e => by have := (World.ownsRow.lt ho k e.symm).1; omega)]
    exact g.block k hk⟩
/-- A list of one element, just laid. -/
theorem row_one (w : World) (E : TypeId) (x : α) (n : Nat) (hn : w.heap.size = n) : Row T (w.alloc (.cells (T.enc x).toArray E)) (.slice (some ⟨n, 0, none⟩) 1 1) [x] := by
  subst hn
  refine ⟨_, 1, rfl, by simp, by simp, .inr ⟨_, 0, rfl, fun j u hu => ?_⟩⟩
  have h := Cells.made w (T.enc x) E
  simp only [List.flatMap_cons, List.flatMap_nil, List.append_nil] at hu
  rw [Nat.zero_add]
  exact (h j u hu).1
/-- A list that lies in cells. -/
theorem row_cells {w : World} {b c : Nat} {xs : List α} (h : Cells w b (xs.flatMap T.enc)) (h1 : xs.length ≤ c) (h2 : (c : Int) ≤ 9223372036854775807) : Row T w (.slice (some ⟨b, 0, none⟩) xs.length c) xs :=
  ⟨_, c, rfl, h1, h2, .inr ⟨_, 0, rfl, fun j u hu => by rw [Nat.zero_add]; exact (h j u hu).1⟩⟩
end

/-! ### the kinds -/
def tI : Ty Int := ⟨fun x => [.int .i64 x], 1, 22, 3, .int .i64 0, 8⟩
theorem tI_ok : tI.Ok := ⟨fun _ => rfl, fun x v h => by obtain rfl := List.mem_singleton.1 h; rfl, by decide, by decide, Try.underlying22, by kernel_rfl, rfl⟩
/-- An event. -/
structure Ev where
  kind : Int
  at_ : Int
  id : Int
  other : Int
  n : Int
instance : Inhabited Ev := ⟨⟨0, 0, 0, 0, 0⟩⟩
def Ev.cells (p : Ev) : List Value := [.int .i64 p.kind, .int .i64 p.at_, .int .i64 p.id, .int .i64 p.other, .int .i64 p.n]
def tE : Ty Ev := ⟨Ev.cells, 5, 23, 30, .agg #[.int .i64 0, .int .i64 0, .int .i64 0, .int .i64 0, .int .i64 0], 40⟩
theorem tE_ok : tE.Ok := ⟨fun _ => rfl, fun x v h => by simp only [tE, Ev.cells, List.mem_cons, List.not_mem_nil, or_false] at h; rcases h with rfl | rfl | rfl | rfl | rfl <;> rfl, by decide, by decide, Try.underlying23, by kernel_rfl, rfl⟩
end Go.Proofs.Ytfcoblapbcdaiaa
