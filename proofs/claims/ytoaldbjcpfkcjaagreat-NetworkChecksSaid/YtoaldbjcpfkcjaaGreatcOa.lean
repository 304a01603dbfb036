/- Lists of numbers, and of such lists, of the call's own. -/
import Derived.Test.YtoaldbjcpfkcjaaGreatcEd
import Derived.Test.YtoaldbjcpfkcjaaGreatcShelf
import Derived.Lib.OwnBridge
import Derived.Lib.SmallJoins
namespace Go.Proofs.YtoaldbjcpfkcjaaGreat
open Go.RowKit Go.Lib Go.Sort Go.Shelf

/-- A list of numbers in memory that was made behind block b. -/
def OwnN (b : Nat) (w : World) (v : Value) (xs : List Int) : Prop := w.ownsRow b 3 1 v xs.length (xs.map (Value.int .i64))
theorem OwnN.nil (b : Nat) (w : World) : OwnN b w (.slice none 0 0) [] := World.ownsRow_nil w b 3 1
theorem OwnN.later {b : Nat} {w w' : World} {v : Value} {xs : List Int} (h : OwnN b w v xs) (g : Grows w w') : OwnN b w' v xs := by
 refine ⟨h.1, ?_⟩
 rcases h.2 with h2 | ⟨k, cap, cur, h1, h2, h3, h4⟩
 ·exact .inl h2
 ·exact .inr ⟨k, cap, cur, h1, h2, heap_grows g h3, h4⟩
theorem OwnN.base {b b' : Nat} {w : World} {v : Value} {xs : List Int} (h : OwnN b w v xs) (hb : b' ≤ b) : OwnN b' w v xs := ⟨h.1, h.2.imp id (fun ⟨k, cap, cur, h1, h2, h3⟩ => ⟨k, cap, cur, h1, Nat.le_trans hb h2, h3⟩)⟩
theorem OwnN.row {b : Nat} {w : World} {v : Value} {xs : List Int} (h : OwnN b w v xs) : RowN w v xs := by
 have hh := h
 rcases h.2 with ⟨rfl, h2⟩ | ⟨k, cap, cur, rfl, h2, h3, h4, h5, h6, h7⟩
 ·have : xs = [] := List.eq_nil_of_length_eq_zero h2
  subst this
  exact ⟨none, 0, rfl, by simp, by simp, .inl rfl⟩
 ·refine ⟨some ⟨k, 0, none⟩, cap, rfl, h4, by unfold maxLen at h5; omega, .inr ⟨k, 0, rfl, fun i x hx => ?_⟩⟩
  have hc := World.ownsRow.cells hh (g := k) rfl i (.int .i64 x) (by rw [List.getElem?_map, hx]; rfl)
  rw [Go.WideShapes.add_plain] at hc
  exact hc
theorem grows_grow (w : World) (os : Array Obj) : Grows w (Sort.grow w os) :=
 ⟨rfl, rfl, rfl, by show w.heap.size ≤ (w.heap ++ os).size; rw [Array.size_append]; omega, fun k hk => Array.getElem?_append_left hk⟩
theorem info3 : (Tryz.prog.info? 3).map (fun i => (i.zero, i.size, i.bytes)) = some (some (.int .i64 0), 1, 8) := by kernel_rfl
set_option maxRecDepth 100000 in
theorem run_append_num {w : World} {b : Nat} {v vx : Value} {xs ys : List Int} (ty : TypeId) (h : OwnN b w v xs) (hx : RowN w vx ys) (hn : xs.length + ys.length ≤ 1000000) (hb : b ≤ w.heap.size) :
  ∃ v' w', (Builtin.append_ #[22, 22] ty #[v, vx]).run Tryz.prog w = .ok v' w' ∧ OwnN b w' v' (xs ++ ys) ∧ w.grownBy w' v.ownBlock ∧ (v'.ownBlock = v.ownBlock ∨ v'.ownBlock = some w.heap.size) := by
 obtain ⟨i0, hi, hz0, hz1, hz2⟩ := info_parts info3
 obtain ⟨a, cap, rfl, h1, h2, h3⟩ := hx
 unfold OwnN
 rw [List.length_append, List.map_append]
 rcases a with _ | ad
 ·have h0 : ys = [] := by
   rcases h3 with h3 | ⟨b, o, h3, _⟩
   ·exact h3
   ·cases h3
  subst h0
  refine ⟨v, w, ?_, by simpa using (show w.ownsRow b 3 1 v xs.length (xs.map (Value.int .i64)) from h), World.grownBy.refl w _, .inl rfl⟩
  have hu := run_underlying (P := Tryz.prog) Tryz.underlying22
  rcases h.2 with ⟨rfl, h2⟩ | ⟨g, cap, cur, rfl, -, -, hle, -⟩
  ·simp [Builtin.append_, hu, sizeOf, typeInfo, hi, Builtin.lenOf, Builtin.firstCells]
  ·simp [Builtin.append_, hu, sizeOf, typeInfo, hi, Builtin.lenOf, Builtin.firstCells, hle, storeCells]
 ·have hcells : ∀ j u, (ys.map (Value.int .i64))[j]? = some u → w.cell? (ad.add j) = some u := by
   intro j u hu
   rcases h3 with h3 | ⟨b, o, h3, h4⟩
   ·rw [h3] at hu; simp at hu
   ·obtain rfl := Option.some.inj h3
    rw [Go.WideShapes.add_plain b o j]
    rw [List.getElem?_map] at hu
    obtain ⟨x, hx, rfl⟩ := Option.map_eq_some_iff.1 hu
    exact h4 j x hx
  obtain ⟨v', w', e1, e2, e3, -, e5⟩ := run_append_own_at (P := Tryz.prog) w b 22 ty 3 i0 (.int .i64 0) 1 8 Tryz.underlying22 hi hz0 hz1 hz2 rfl (by decide) v xs.length (xs.map (Value.int .i64)) h ad ys.length cap (ys.map (Value.int .i64)) (by simp) hcells (by intro u hu; obtain ⟨x, -, rfl⟩ := List.mem_map.1 hu; rfl)
   (by unfold maxLen; omega) (by omega) hb
  exact ⟨v', w', e1, e2, e3, e5⟩
/-- At an operation of a plain region. -/
theorem wpList_append_num {ops : Array Oper} {rest : List Oper} {o : Oper} {a : Act} {w : World} {Q : Exit → Act → World → Prop} (hgd : o.guard = none) (s x : Operand)
  (ho : o.op = .call { callee := .builtin .append, args := #[s, x], argTypes := #[22, 22] }) {b : Nat} {v vx : Value} {xs ys : List Int} (hs : a.eval s = v) (h : OwnN b w v xs)
  (hx : a.eval x = vx) (hr : RowN w vx ys) (hn : xs.length + ys.length ≤ 1000000) (hb : b ≤ w.heap.size)
  (hK : ∀ v' w', OwnN b w' v' (xs ++ ys) → w.grownBy w' v.ownBlock → (v'.ownBlock = v.ownBlock ∨ v'.ownBlock = some w.heap.size) → wpList Tryz.prog ops Q rest (a.put o.dst v') w') : wpList Tryz.prog ops Q (o :: rest) a w := by
 refine wpList_plain hgd fun K hK' => ?_
 obtain ⟨v', w', e1, e2, e3, e5⟩ := run_append_num o.type h hr hn hb
 unfold Oper.wp execOp
 simp only [ho, resolve, invoke, builtin, Sem.run_bind, Sem.run_pure, Result.andThen_ok, List.map_toArray, List.map_cons, List.map_nil, hs, hx, e1]
 exact hK' _ _ (hK v' w' e2 e3 e5)
theorem step_num {ops : Array Oper} {o : Oper} {a : Act} {w : World} {K : Act → World → Prop} {Q : Exit → Act → World → Prop} {E : Prop} (hgd : o.guard = none) (s x : Operand)
  (ho : o.op = .call { callee := .builtin .append, args := #[s, x], argTypes := #[22, 22] }) {b : Nat} {v vx : Value} {xs ys : List Int} (hs : a.eval s = v) (h : OwnN b w v xs)
  (hx : a.eval x = vx) (hr : RowN w vx ys) (hn : xs.length + ys.length ≤ 1000000) (hb : b ≤ w.heap.size)
  (hK : ∀ v' w', OwnN b w' v' (xs ++ ys) → w.grownBy w' v.ownBlock → (v'.ownBlock = v.ownBlock ∨ v'.ownBlock = some w.heap.size) → K (a.put o.dst v') w') :
  if Region.wanted o (yielded ops a.tmps) = true then Oper.wp Tryz.prog o a w K Q else E := by
 have hw : Region.wanted o (yielded ops a.tmps) = true := by simp [Region.wanted, hgd]
 rw [if_pos hw]
 obtain ⟨v', w', e1, e2, e3, e5⟩ := run_append_num o.type h hr hn hb
 unfold Oper.wp execOp
 simp only [ho, resolve, invoke, builtin, Sem.run_bind, Sem.run_pure, Result.andThen_ok, List.map_toArray, List.map_cons, List.map_nil, hs, hx, e1]
 exact hK v' w' e2 e3 e5
theorem rowN_one (w : World) (T : TypeId) (z : Int) (n : Nat) (hn : w.heap.size = n) : RowN (w.alloc (.cells #[.int .i64 z] T)) (.slice (some ⟨n, 0, none⟩) 1 1) [z] := by
 subst hn
 refine ⟨_, 1, rfl, by simp, by simp, .inr ⟨_, 0, rfl, fun i x hx => ?_⟩⟩
 have hi : i = 0 := by have := (List.getElem?_eq_some_iff.1 hx).1; simp at this; exact this
 subst hi
 cases hx
 rw [cell_of_row _ _ 0 #[.int .i64 z] T (0, 0) (heap_alloc_new w _)]
 rfl
theorem grow_append_num {w W W' : World} {b : Nat} {v : Value} {xs : List Int} (g : Grows w W) (ho : OwnN b W v xs) (hb : w.heap.size ≤ b) (hg : W.grownBy W' v.ownBlock) : Grows w W' :=
 ⟨hg.os.trans g.os, hg.tape.trans g.tape, hg.output.trans g.output, Nat.le_trans g.size hg.size, fun k hk => by
  rw [hg.block k (Nat.lt_of_lt_of_le hk g.size) (fun e => by have := (World.ownsRow.lt ho k e.symm).1; omega)]
  exact g.block k hk⟩
theorem RowN.spot {w : World} {a : Option Addr} {n c : Nat} {xs : List Int} (h : RowN w (.slice a n c) xs) (hp : 0 < xs.length) :
  ∃ b o, a = some ⟨b, o, none⟩ ∧ ∀ i x, xs[i]? = some x → w.cell? ⟨b, o + i, none⟩ = some (.int .i64 x) := by
 obtain ⟨a', c', he, -, -, hq⟩ := h
 injection he with e1 _ _
 subst e1
 exact hq.resolve_left (by intro h; rw [h] at hp; simp at hp)

theorem ownsRow_same {b e size n : Nat} {w w' : World} {v : Value} {xs : List Value} (h : w.ownsRow b e size v n xs) (hs : ∀ k, v.ownBlock = some k → w'.heap[k]? = w.heap[k]?) : w'.ownsRow b e size v n xs := by
 refine ⟨h.1, ?_⟩
 rcases h.2 with h2 | ⟨k, cap, cur, h1, h2, h3, h4⟩
 ·exact .inl h2
 ·exact .inr ⟨k, cap, cur, h1, h2, (hs k (by rw [h1]; rfl)).trans h3, h4⟩
/-- Lists of numbers, no two in one block. -/
structure Inner (b : Nat) (w : World) (us : List Value) (gs : List (List Int)) : Prop where
 len : us.length = gs.length
 own : ∀ (i : Nat) (u : Value) (xs : List Int), us[i]? = some u → gs[i]? = some xs → OwnN b w u xs
 ne : ∀ (i j : Nat) (u u' : Value) (k : Nat), i ≠ j → us[i]? = some u → us[j]? = some u' → u.ownBlock = some k → u'.ownBlock ≠ some k
/-- A list of lists of numbers of the call's own. -/
def OwnG (b : Nat) (w : World) (v : Value) (gs : List (List Int)) : Prop := ∃ us, w.ownsRow b 22 1 v gs.length us ∧ Inner b w us gs
/-- A list of lists of numbers in memory. -/
def RowG (w : World) (v : Value) (gs : List (List Int)) : Prop :=
 ∃ a cap, v = .slice a gs.length cap ∧ gs.length ≤ cap ∧ (cap : Int) ≤ 9223372036854775807 ∧ (gs = [] ∨ ∃ b o, a = some ⟨b, o, none⟩ ∧ ∀ i xs, gs[i]? = some xs → ∃ u, RowN w u xs ∧ w.cell? ⟨b, o + i, none⟩ = some u)
theorem RowG.later {w w' : World} {v : Value} {gs : List (List Int)} (h : RowG w v gs) (g : Grows w w') : RowG w' v gs := by
 obtain ⟨a, cap, h1, h2, h3, h4⟩ := h
 refine ⟨a, cap, h1, h2, h3, h4.imp id ?_⟩
 rintro ⟨b, o, e, hq⟩
 refine ⟨b, o, e, fun i xs hx => ?_⟩
 obtain ⟨u, hu, hc⟩ := hq i xs hx
 exact ⟨u, hu.later g, (g.cell (World.block_lt_of_cell? w _ hc)).trans hc⟩
theorem Inner.same {b : Nat} {w w' : World} {us : List Value} {gs : List (List Int)} (h : Inner b w us gs) (hs : ∀ k, b ≤ k → k < w.heap.size → w'.heap[k]? = w.heap[k]?) : Inner b w' us gs :=
 ⟨h.len, fun i u xs hu hx => ownsRow_same (h.own i u xs hu hx) fun k e => hs k (World.ownsRow.lt (h.own i u xs hu hx) k e).1 (World.ownsRow.lt (h.own i u xs hu hx) k e).2, h.ne⟩
theorem OwnG.same {b : Nat} {w w' : World} {v : Value} {gs : List (List Int)} (h : OwnG b w v gs) (hs : ∀ k, b ≤ k → k < w.heap.size → w'.heap[k]? = w.heap[k]?) : OwnG b w' v gs := by
 obtain ⟨us, h1, h2⟩ := h
 exact ⟨us, ownsRow_same h1 fun k e => hs k (World.ownsRow.lt h1 k e).1 (World.ownsRow.lt h1 k e).2, h2.same hs⟩
theorem OwnG.later {b : Nat} {w w' : World} {v : Value} {gs : List (List Int)} (h : OwnG b w v gs) (g : Grows w w') : OwnG b w' v gs := h.same fun k _ hk => g.block k hk
theorem Inner.later {b : Nat} {w w' : World} {us : List Value} {gs : List (List Int)} (h : Inner b w us gs) (g : Grows w w') : Inner b w' us gs := h.same fun k _ hk => g.block k hk
theorem OwnG.nil (b : Nat) (w : World) : OwnG b w (.slice none 0 0) [] := ⟨[], World.ownsRow_nil w b 22 1, ⟨rfl, fun i u xs h => by simp at h, fun i j u u' k _ h => by simp at h⟩⟩
theorem OwnG.form {b : Nat} {w : World} {v : Value} {gs : List (List Int)} (h : OwnG b w v gs) : ∃ a c, v = .slice a gs.length c ∧ gs.length ≤ c ∧ (c : Int) ≤ 9223372036854775807 := by
 obtain ⟨us, h1, -⟩ := h
 rcases h1.2 with ⟨rfl, h2⟩ | ⟨k, cap, cur, rfl, h2, h3, h4, h5, h6, h7⟩
 ·exact ⟨none, 0, by rw [h2], by omega, by omega⟩
 ·exact ⟨_, cap, rfl, h4, by unfold maxLen at h5; omega⟩
theorem OwnG.row {b : Nat} {w : World} {v : Value} {gs : List (List Int)} (h : OwnG b w v gs) : RowG w v gs := by
 obtain ⟨us, h1, hI⟩ := h
 have hh := h1
 rcases h1.2 with ⟨rfl, h2⟩ | ⟨k, cap, cur, rfl, h2, h3, h4, h5, h6, h7⟩
 ·have : gs = [] := List.eq_nil_of_length_eq_zero h2
  subst this
  exact ⟨none, 0, rfl, by simp, by simp, .inl rfl⟩
 ·refine ⟨some ⟨k, 0, none⟩, cap, rfl, h4, by unfold maxLen at h5; omega, .inr ⟨k, 0, rfl, fun i xs hx => ?_⟩⟩
  obtain ⟨u, hu⟩ : ∃ u, us[i]? = some u := ⟨_, List.getElem?_eq_getElem (by rw [hI.len]; exact (List.getElem?_eq_some_iff.1 hx).1)⟩
  have hc := World.ownsRow.cells hh (g := k) rfl i u hu
  rw [Go.WideShapes.add_plain] at hc
  exact ⟨u, (hI.own i u xs hu hx).row, hc⟩
theorem info22 : (Tryz.prog.info? 22).map (fun i => (i.zero, i.size, i.bytes)) = some (some (.slice none 0 0), 1, 24) := by kernel_rfl
theorem kind_ne {b c : Nat} {w : World} {v u : Value} {n : Nat} {us : List Value} {xs : List Int} (hv : w.ownsRow b 22 1 v n us) (hu : OwnN c w u xs) {k : Nat} (h1 : v.ownBlock = some k) : u.ownBlock ≠ some k := by
 intro h2
 have hk1 : ∃ cur, w.heap[k]? = some (.cells cur 3 (0, 0)) := by
  rcases hu.2 with ⟨q, -⟩ | ⟨g, cap, cur, q, _, q3, -⟩
  ·rw [q] at h2; cases h2
  ·rw [q] at h2; cases h2; exact ⟨cur, q3⟩
 have hk2 : ∃ cur, w.heap[k]? = some (.cells cur 22 (0, 0)) := by
  rcases hv.2 with ⟨q, -⟩ | ⟨g, cap, cur, q, _, q3, -⟩
  ·rw [q] at h1; cases h1
  ·rw [q] at h1; cases h1; exact ⟨cur, q3⟩
 obtain ⟨c1, e1⟩ := hk1
 obtain ⟨c2, e2⟩ := hk2
 rw [e1] at e2
 cases e2
set_option maxRecDepth 100000 in
/-- A list is appended. -/
theorem run_append_list {w0 w : World} {b : Nat} {v u : Value} {gs : List (List Int)} {xs : List Int} {bx c : Nat} (ty : TypeId) (h : OwnG b w0 v gs) (hg : Grows w0 w) (hu : OwnN b w u xs) (hn : ∀ k, u.ownBlock = some k → w0.heap.size ≤ k) (h1 : u.oneCell' = true)
  (c0 : w.cell? ⟨bx, 0, none⟩ = some u) (hl : gs.length ≤ 100000) (hb : b ≤ w.heap.size) :
  ∃ v' w', (Builtin.append_ #[34, 34] ty #[v, .slice (some ⟨bx, 0, none⟩) 1 c]).run Tryz.prog w = .ok v' w' ∧ OwnG b w' v' (gs ++ [xs]) ∧ w.grownBy w' v.ownBlock := by
 obtain ⟨i0, hi, hz0, hz1, hz2⟩ := info_parts info22
 obtain ⟨us, hh0, hI0⟩ := h
 have hI := hI0.later hg
 have hh : w.ownsRow b 22 1 v gs.length us := ownsRow_same hh0 fun k e => hg.block k (World.ownsRow.lt hh0 k e).2
 have hlow : ∀ (i : Nat) (q : Value) (k : Nat), us[i]? = some q → q.ownBlock = some k → k < w0.heap.size := fun i q k hq hk => by
  obtain ⟨ys, hy⟩ : ∃ ys, gs[i]? = some ys := ⟨_, List.getElem?_eq_getElem (by rw [← hI.len]; exact (List.getElem?_eq_some_iff.1 hq).1)⟩
  exact (World.ownsRow.lt (hI0.own i q ys hq hy) k hk).2
 obtain ⟨v', w', e1, e2, e3, -, -⟩ := run_append_own_at (P := Tryz.prog) w b 34 ty 22 i0 (.slice none 0 0) 1 24 Tryz.underlying34 hi hz0 hz1 hz2 rfl (by decide) v gs.length us hh ⟨bx, 0, none⟩ 1 c [u] rfl
  (by
   intro j x hj
   rw [Go.WideShapes.add_plain, Nat.zero_add]
   match j, hj with
   | 0, hj => cases hj; exact c0
   | j + 1, hj => simp at hj)
  (by intro x hx; simp only [List.mem_cons, List.not_mem_nil, or_false] at hx; subst hx; exact h1)
  (by unfold maxLen; omega) (by omega) hb
 have keep : ∀ {q : Value} {ys : List Int}, OwnN b w q ys → OwnN b w' q ys := fun {q ys} hq => ownsRow_same hq fun k e => e3.block k (World.ownsRow.lt hq k e).2 fun e4 => kind_ne hh hq e4.symm e
 refine ⟨v', w', e1, ⟨us ++ [u], by rw [List.length_append]; exact e2, ⟨by simp [hI.len], fun i q ys hq hy => ?_, fun i j q q' k hij hq hq' hk => ?_⟩⟩, e3⟩
 ·by_cases hlt : i < us.length
  ·rw [List.getElem?_append_left hlt] at hq
   rw [List.getElem?_append_left (by rw [← hI.len]; exact hlt)] at hy
   exact keep (hI.own i q ys hq hy)
  ·have hlu := (List.getElem?_eq_some_iff.1 hq).1
   rw [List.length_append] at hlu
   have : i = us.length := by simp at hlu; omega
   subst this
   rw [List.getElem?_append_right (Nat.le_refl _)] at hq
   rw [List.getElem?_append_right (by rw [hI.len]; exact Nat.le_refl _)] at hy
   simp [hI.len] at hq hy
   subst hq hy
   exact keep hu
 ·by_cases hli : i < us.length <;> by_cases hlj : j < us.length
  ·rw [List.getElem?_append_left hli] at hq
   rw [List.getElem?_append_left hlj] at hq'
   exact hI.ne i j q q' k hij hq hq' hk
  ·rw [List.getElem?_append_left hli] at hq
   rw [List.getElem?_append_right (by omega)] at hq'
   have hu' : q' = u := by
    rcases List.mem_of_getElem? hq' with _ | ⟨_, h⟩
    ·rfl
    ·cases h
   subst hu'
   intro e
   have := hlow i q k hq hk
   have := hn k e
   omega
  ·rw [List.getElem?_append_right (by omega)] at hq
   rw [List.getElem?_append_left hlj] at hq'
   have hu' : q = u := by
    rcases List.mem_of_getElem? hq with _ | ⟨_, h⟩
    ·rfl
    ·cases h
   subst hu'
   intro e
   have := hlow j q' k hq' e
   have := hn k hk
   omega
  ·have h1 := (List.getElem?_eq_some_iff.1 hq).1
   have h2 := (List.getElem?_eq_some_iff.1 hq').1
   simp at h1 h2
   omega
theorem wpList_append_list {ops : Array Oper} {rest : List Oper} {o : Oper} {a : Act} {w0 w : World} {Q : Exit → Act → World → Prop} (hgd : o.guard = none) (s x : Operand)
  (ho : o.op = .call { callee := .builtin .append, args := #[s, x], argTypes := #[34, 34] }) {b : Nat} {v u : Value} {gs : List (List Int)} {xs : List Int} {bx c : Nat} (hs : a.eval s = v) (h : OwnG b w0 v gs) (hg : Grows w0 w)
  (hx : a.eval x = .slice (some ⟨bx, 0, none⟩) 1 c) (hu : OwnN b w u xs) (hn : ∀ k, u.ownBlock = some k → w0.heap.size ≤ k) (h1 : u.oneCell' = true)
  (c0 : w.cell? ⟨bx, 0, none⟩ = some u) (hl : gs.length ≤ 100000) (hb : b ≤ w.heap.size)
  (hK : ∀ v' w', OwnG b w' v' (gs ++ [xs]) → w.grownBy w' v.ownBlock → wpList Tryz.prog ops Q rest (a.put o.dst v') w') : wpList Tryz.prog ops Q (o :: rest) a w := by
 refine wpList_plain hgd fun K hK' => ?_
 obtain ⟨v', w', e1, e2, e3⟩ := run_append_list (c := c) o.type h hg hu hn h1 c0 hl hb
 obtain ⟨vx, hvx⟩ : ∃ vx, vx = Value.slice (some ⟨bx, 0, none⟩) 1 c := ⟨_, rfl⟩
 rw [← hvx] at hx e1
 clear hvx
 unfold Oper.wp execOp
 simp only [ho, resolve, invoke, builtin, Sem.run_bind, Sem.run_pure, Result.andThen_ok, List.map_toArray, List.map_cons, List.map_nil, hs, hx, e1]
 exact hK' _ _ (hK v' w' e2 e3)
theorem OwnG.lt {b : Nat} {w : World} {v : Value} {gs : List (List Int)} (h : OwnG b w v gs) {k : Nat} (e : v.ownBlock = some k) : b ≤ k ∧ k < w.heap.size := by
 obtain ⟨us, h1, -⟩ := h
 exact World.ownsRow.lt h1 k e

end Go.Proofs.YtoaldbjcpfkcjaaGreat
