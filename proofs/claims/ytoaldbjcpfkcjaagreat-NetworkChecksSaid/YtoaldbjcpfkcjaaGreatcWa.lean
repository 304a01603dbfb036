/- Lists of ways of the call's own; spot. -/
import Derived.Test.YtoaldbjcpfkcjaaGreatcCf
namespace Go.Proofs.YtoaldbjcpfkcjaaGreat
open Go.RowKit Go.Lib

/-- A list of ways in memory that was made behind block b, with lines that were made there, too. -/
def flatW (us : List Value) (es : List Wy) : List Value := (us.zip es).flatMap fun p => [.int .i64 p.2.id, p.1, .int .i64 p.2.lv, .string p.2.cl, .string p.2.nm, .bool p.2.st, .int .i64 p.2.wt, .int .i64 p.2.ds]
def OwnW (b : Nat) (w : World) (v : Value) (es : List Wy) : Prop :=
 ∃ us : List Value, us.length = es.length ∧ w.ownsRow b 44 8 v es.length (flatW us es) ∧ ∀ p ∈ us.zip es, Own b w p.1 p.2.ln
theorem OwnW.nil (b : Nat) (w : World) : OwnW b w (.slice none 0 0) [] := ⟨[], rfl, World.ownsRow_nil w b 44 8, fun _ h => by cases h⟩
theorem OwnW.same {b : Nat} {w w' : World} {v : Value} {es : List Wy} (h : OwnW b w v es) (hs : ∀ k, b ≤ k → k < w.heap.size → w'.heap[k]? = w.heap[k]?) : OwnW b w' v es := by
 obtain ⟨us, h1, h2, h3⟩ := h
 refine ⟨us, h1, ownsRow_same h2 fun k e => hs k (World.ownsRow.lt h2 k e).1 (World.ownsRow.lt h2 k e).2, fun p hp => ?_⟩
 have hh := h3 p hp
 exact ownsRow_same hh fun k e => hs k (World.ownsRow.lt hh k e).1 (World.ownsRow.lt hh k e).2
theorem OwnW.later {b : Nat} {w w' : World} {v : Value} {es : List Wy} (h : OwnW b w v es) (g : Grows w w') : OwnW b w' v es := h.same fun k _ hk => g.block k hk
theorem OwnW.oth {b D : Nat} {w w' : World} {v : Value} {es : List Wy} (h : OwnW b w v es) (hD : D < b) (g : Oth D w w') : OwnW b w' v es := h.same fun k hb hk => g.2 k (by omega) hk
theorem flatW_cons (u : Value) (us : List Value) (e : Wy) (es : List Wy) : flatW (u :: us) (e :: es) = [.int .i64 e.id, u, .int .i64 e.lv, .string e.cl, .string e.nm, .bool e.st, .int .i64 e.wt, .int .i64 e.ds] ++ flatW us es := rfl
theorem flatW_snoc {us : List Value} {es : List Wy} (h : us.length = es.length) (u : Value) (e : Wy) : flatW (us ++ [u]) (es ++ [e]) = flatW us es ++ [.int .i64 e.id, u, .int .i64 e.lv, .string e.cl, .string e.nm, .bool e.st, .int .i64 e.wt, .int .i64 e.ds] := by
 unfold flatW
 rw [List.zip_append h, List.flatMap_append]
 rfl
theorem flatW_at : ∀ {us : List Value} {es : List Wy} {i : Nat} {e : Wy} {u : Value}, us[i]? = some u → es[i]? = some e →
  (flatW us es)[i * 8]? = some (.int .i64 e.id) ∧ (flatW us es)[i * 8 + 1]? = some (u) ∧ (flatW us es)[i * 8 + 2]? = some (.int .i64 e.lv) ∧ (flatW us es)[i * 8 + 3]? = some (.string e.cl) ∧ (flatW us es)[i * 8 + 4]? = some (.string e.nm) ∧ (flatW us es)[i * 8 + 5]? = some (.bool e.st) ∧ (flatW us es)[i * 8 + 6]? = some (.int .i64 e.wt) ∧ (flatW us es)[i * 8 + 7]? = some (.int .i64 e.ds)
 | [], _, _, _, _, h, _ => by simp at h
 | _ :: _, [], _, _, _, _, h => by simp at h
 | u' :: us, e' :: es, 0, e, u, h1, h2 => by
  simp only [List.getElem?_cons_zero, Option.some.injEq] at h1 h2
  subst h1 h2
  rw [flatW_cons]
  exact ⟨rfl, rfl, rfl, rfl, rfl, rfl, rfl, rfl⟩
 | u' :: us, e' :: es, i + 1, e, u, h1, h2 => by
  rw [List.getElem?_cons_succ] at h1 h2
  obtain ⟨a0, a1, a2, a3, a4, a5, a6, a7⟩ := flatW_at (us := us) (es := es) h1 h2
  have key : ∀ j, (flatW (u' :: us) (e' :: es))[j + 8]? = (flatW us es)[j]? := fun j => by
   rw [flatW_cons, List.getElem?_append_right (by simp)]; simp
  refine ⟨?_, ?_, ?_, ?_, ?_, ?_, ?_, ?_⟩
  ·rw [show (i + 1) * 8 = i * 8 + 8 by omega, key]; exact a0
  ·rw [show (i + 1) * 8 + 1 = i * 8 + 1 + 8 by omega, key]; exact a1
  ·rw [show (i + 1) * 8 + 2 = i * 8 + 2 + 8 by omega, key]; exact a2
  ·rw [show (i + 1) * 8 + 3 = i * 8 + 3 + 8 by omega, key]; exact a3
  ·rw [show (i + 1) * 8 + 4 = i * 8 + 4 + 8 by omega, key]; exact a4
  ·rw [show (i + 1) * 8 + 5 = i * 8 + 5 + 8 by omega, key]; exact a5
  ·rw [show (i + 1) * 8 + 6 = i * 8 + 6 + 8 by omega, key]; exact a6
  ·rw [show (i + 1) * 8 + 7 = i * 8 + 7 + 8 by omega, key]; exact a7
theorem OwnW.row {b : Nat} {w : World} {v : Value} {es : List Wy} (h : OwnW b w v es) : RowW w v es := by
 obtain ⟨us, hl, hh, hu⟩ := h
 have hh0 := hh
 rcases hh.2 with ⟨rfl, h2⟩ | ⟨k, cap, cur, rfl, h2, h3, h4, h5, h6, h7⟩
 ·have : es = [] := List.eq_nil_of_length_eq_zero h2
  subst this
  exact ⟨none, 0, rfl, by simp, by simp, .inl rfl⟩
 ·refine ⟨some ⟨k, 0, none⟩, cap, rfl, h4, by unfold maxLen at h5; omega, .inr ⟨k, 0, rfl, fun i e he => ?_⟩⟩
  obtain ⟨u, hue⟩ : ∃ u, us[i]? = some u := ⟨_, List.getElem?_eq_getElem (by rw [hl]; exact (List.getElem?_eq_some_iff.1 he).1)⟩
  have hc := World.ownsRow.cells hh0 (g := k) rfl
  obtain ⟨a0, a1, a2, a3, a4, a5, a6, a7⟩ := flatW_at hue he
  have c0 := hc _ _ a0
  have c1 := hc _ _ a1
  have c2 := hc _ _ a2
  have c3 := hc _ _ a3
  have c4 := hc _ _ a4
  have c5 := hc _ _ a5
  have c6 := hc _ _ a6
  have c7 := hc _ _ a7
  rw [Go.WideShapes.add_plain] at c0 c1 c2 c3 c4 c5 c6 c7
  simp only [Nat.add_assoc]
  have hz : (us.zip es)[i]? = some (u, e) := by rw [List.getElem?_zip_eq_some]; exact ⟨hue, he⟩
  exact ⟨u, (hu _ (List.mem_of_getElem? hz)).row, c0, c1, c2, c3, c4, c5, c6, c7⟩
theorem info44 : (Tryz.prog.info? 44).map (fun i => (i.zero, i.size, i.bytes)) = some (some (.agg #[.int .i64 0, .slice none 0 0, .int .i64 0, .string { data := #[] }, .string { data := #[] }, .bool false, .int .i64 0, .int .i64 0]), 8, 96) := by kernel_rfl
theorem Own.apart_ways {b c : Nat} {w W' : World} {v u : Value} {n m : Nat} {xs : List Value} {ps : List (Int × Int)} (hv : w.ownsRow b 44 n v m xs) (hu : Own c w u ps) (hg : w.grownBy W' v.ownBlock) : Own c W' u ps := by
 refine ownsRow_same (show w.ownsRow c 37 2 u ps.length (flat ps) from hu) fun k e => ?_
 refine hg.block k (World.ownsRow.lt hu k e).2 fun e2 => ?_
 have hk1 : ∃ cur, w.heap[k]? = some (.cells cur 37 (0, 0)) := by
  rcases hu.2 with ⟨h1, -⟩ | ⟨g, cap, cur, h1, h2, h3, -⟩
  ·rw [h1] at e; cases e
  ·rw [h1] at e; cases e; exact ⟨cur, h3⟩
 have hk2 : ∃ cur, w.heap[k]? = some (.cells cur 44 (0, 0)) := by
  rcases hv.2 with ⟨h1, -⟩ | ⟨g, cap, cur, h1, h2, h3, -⟩
  ·rw [h1] at e2; cases e2
  ·rw [h1] at e2; cases e2; exact ⟨cur, h3⟩
 obtain ⟨c1, e1⟩ := hk1
 obtain ⟨c2, e2⟩ := hk2
 rw [e1] at e2
 cases e2
theorem Own.one_cell {b : Nat} {w : World} {u : Value} {ps : List (Int × Int)} (h : Own b w u ps) : u.oneCell' = true := by
 obtain ⟨a, c, rfl, -⟩ := h.row
 rfl
set_option maxRecDepth 100000 in
theorem run_append_way {w : World} {b : Nat} {v u : Value} {es : List Wy} {e : Wy} {bx c : Nat} (ty : TypeId) (h : OwnW b w v es) (hu : Own b w u e.ln)
  (hc : w.cell? ⟨bx, 0, none⟩ = some (.int .i64 e.id) ∧ w.cell? ⟨bx, 1, none⟩ = some (u) ∧ w.cell? ⟨bx, 2, none⟩ = some (.int .i64 e.lv) ∧ w.cell? ⟨bx, 3, none⟩ = some (.string e.cl) ∧ w.cell? ⟨bx, 4, none⟩ = some (.string e.nm) ∧ w.cell? ⟨bx, 5, none⟩ = some (.bool e.st) ∧ w.cell? ⟨bx, 6, none⟩ = some (.int .i64 e.wt) ∧ w.cell? ⟨bx, 7, none⟩ = some (.int .i64 e.ds)) (hn : es.length ≤ 100000) (hb : b ≤ w.heap.size) :
  ∃ v' w', (Builtin.append_ #[23, 23] ty #[v, .slice (some ⟨bx, 0, none⟩) 1 c]).run Tryz.prog w = .ok v' w' ∧ OwnW b w' v' (es ++ [e]) ∧ w.grownBy w' v.ownBlock := by
 obtain ⟨c0, c1, c2, c3, c4, c5, c6, c7⟩ := hc
 obtain ⟨i0, hi, hz0, hz1, hz2⟩ := info_parts info44
 obtain ⟨us, hl, hh, hus⟩ := h
 obtain ⟨v', w', e1, e2, e3, -, -⟩ := run_append_own_at (P := Tryz.prog) w b 23 ty 44 i0 (.agg #[.int .i64 0, .slice none 0 0, .int .i64 0, .string { data := #[] }, .string { data := #[] }, .bool false, .int .i64 0, .int .i64 0]) 8 96 Tryz.underlying23 hi hz0 hz1 hz2 rfl (by decide) v es.length (flatW us es) hh ⟨bx, 0, none⟩ 1 c [.int .i64 e.id, u, .int .i64 e.lv, .string e.cl, .string e.nm, .bool e.st, .int .i64 e.wt, .int .i64 e.ds] rfl
  (by
   intro j x hj
   rw [Go.WideShapes.add_plain, Nat.zero_add]
   match j, hj with
   | 0, hj => cases hj; exact c0
   | 1, hj => cases hj; exact c1
   | 2, hj => cases hj; exact c2
   | 3, hj => cases hj; exact c3
   | 4, hj => cases hj; exact c4
   | 5, hj => cases hj; exact c5
   | 6, hj => cases hj; exact c6
   | 7, hj => cases hj; exact c7
   | j + 8, hj => simp at hj)
  (by intro x hx; simp only [List.mem_cons, List.not_mem_nil, or_false] at hx; rcases hx with rfl | rfl | rfl | rfl | rfl | rfl | rfl | rfl <;> first | rfl | exact hu.one_cell)
  (by unfold maxLen; omega) (by omega) hb
 refine ⟨v', w', e1, ⟨us ++ [u], by simp [hl], ?_, fun p hp => ?_⟩, e3⟩
 ·rw [List.length_append, flatW_snoc hl]; exact e2
 ·rw [List.zip_append hl] at hp
  rcases List.mem_append.1 hp with hp | hp
  ·exact Own.apart_ways hh (hus p hp) e3
  ·simp only [List.zip_cons_cons, List.zip_nil_left, List.mem_cons, List.not_mem_nil, or_false] at hp
   subst hp
   exact Own.apart_ways hh hu e3
theorem wpList_append_way {ops : Array Oper} {rest : List Oper} {o : Oper} {a : Act} {w : World} {Q : Exit → Act → World → Prop} (hgd : o.guard = none) (s x : Operand)
  (ho : o.op = .call { callee := .builtin .append, args := #[s, x], argTypes := #[23, 23] }) {b : Nat} {v u : Value} {es : List Wy} {e : Wy} {bx c : Nat} (hs : a.eval s = v) (h : OwnW b w v es)
  (hx : a.eval x = .slice (some ⟨bx, 0, none⟩) 1 c) (hu : Own b w u e.ln)
  (hc : w.cell? ⟨bx, 0, none⟩ = some (.int .i64 e.id) ∧ w.cell? ⟨bx, 1, none⟩ = some (u) ∧ w.cell? ⟨bx, 2, none⟩ = some (.int .i64 e.lv) ∧ w.cell? ⟨bx, 3, none⟩ = some (.string e.cl) ∧ w.cell? ⟨bx, 4, none⟩ = some (.string e.nm) ∧ w.cell? ⟨bx, 5, none⟩ = some (.bool e.st) ∧ w.cell? ⟨bx, 6, none⟩ = some (.int .i64 e.wt) ∧ w.cell? ⟨bx, 7, none⟩ = some (.int .i64 e.ds)) (hn : es.length ≤ 100000) (hb : b ≤ w.heap.size)
  (hK : ∀ v' w', OwnW b w' v' (es ++ [e]) → w.grownBy w' v.ownBlock → wpList Tryz.prog ops Q rest (a.put o.dst v') w') : wpList Tryz.prog ops Q (o :: rest) a w := by
 refine wpList_plain hgd fun K hK' => ?_
 obtain ⟨v', w', e1, e2, e3⟩ := run_append_way (c := c) o.type h hu hc hn hb
 obtain ⟨vx, hvx⟩ : ∃ vx, vx = Value.slice (some ⟨bx, 0, none⟩) 1 c := ⟨_, rfl⟩
 rw [← hvx] at hx e1
 clear hvx
 unfold Oper.wp execOp
 simp only [ho, resolve, invoke, builtin, Sem.run_bind, Sem.run_pure, Result.andThen_ok, List.map_toArray, List.map_cons, List.map_nil, hs, hx, e1]
 exact hK' _ _ (hK v' w' e2 e3)
theorem OwnW.lt {b : Nat} {w : World} {v : Value} {es : List Wy} (h : OwnW b w v es) {k : Nat} (e : v.ownBlock = some k) : b ≤ k ∧ k < w.heap.size := by
 obtain ⟨us, -, h2, -⟩ := h
 exact World.ownsRow.lt h2 k e
theorem OwnW.grows {w W W' : World} {b : Nat} {v : Value} {es : List Wy} (g : Grows w W) (ho : OwnW b W v es) (hb : w.heap.size ≤ b) (hg : W.grownBy W' v.ownBlock) : Grows w W' :=
 Below.grown g hg g.size (fun _ e => Nat.le_trans hb (ho.lt e).1)
theorem Has.grownB {w W W' : World} {bs : List (Nat × List Value)} {b : Nat} {v : Value} (h : Has w bs W) (ho : ∀ k, v.ownBlock = some k → b ≤ k) (hb : ∀ p ∈ bs, p.1 < b) (hw : w.heap.size ≤ b) (hg : W.grownBy W' v.ownBlock) : Has w bs W' := by
 refine ⟨fun p hp i u hu => ?_, fun p hp => Nat.lt_of_lt_of_le (h.lt p hp) hg.size, h.ge, h.nd, h.low.grown hg h.low.size (fun k e => by have := ho k e; omega)⟩
 obtain ⟨c1, c2⟩ := h.c p hp i u hu
 have hblock := hg.block p.1 (h.lt p hp) (fun e => by have := ho _ e.symm; have := hb p hp; omega)
 constructor
 ·rw [← c1]; unfold World.cell?; simp only [hblock]
 ·rw [← c2]; unfold World.frozen?; simp only [hblock]
theorem held_append_pts {o : Oper} {y : Nat → Option Bool} {a : Act} {w : World} {K : Act → World → Prop} {Q : Exit → Act → World → Prop} {R : Prop} (hw : Region.wanted o y = true) (s x : Operand)
  (ho : o.op = .call { callee := .builtin .append, args := #[s, x], argTypes := #[42, 42] }) {b : Nat} {v vx : Value} {ps qs : List (Int × Int)} (hs : a.eval s = v) (h : Own b w v ps)
  (hx : a.eval x = vx) (hr : RowP w vx qs) (hn : ps.length + qs.length ≤ 100000) (hb : b ≤ w.heap.size)
  (hK : ∀ v' w', Own b w' v' (ps ++ qs) → w.grownBy w' v.ownBlock → K (a.put o.dst v') w') : if Region.wanted o y = true then Oper.wp Tryz.prog o a w K Q else R := by
 rw [if_pos hw]
 obtain ⟨v', w', e1, e2, e3⟩ := run_append_own o.type h hr hn hb
 unfold Oper.wp execOp
 simp only [ho, resolve, invoke, builtin, Sem.run_bind, Sem.run_pure, Result.andThen_ok, List.map_toArray, List.map_cons, List.map_nil, hs, hx, e1]
 exact hK v' w' e2 e3
theorem Oth.new {D : Nat} {w w' : World} (h : Oth D w w') {B : Nat} (hB : w.heap.size ≤ B) (i : Nat) (u : Value) : Oth D w (w'.setCell ⟨B, i, none⟩ u) :=
 ⟨by rw [World.size_setCell]; exact h.1, fun k hk hl => by rw [← h.2 k hk hl]; exact (Oth.set B i w' u).2 k (by omega) (Nat.lt_of_lt_of_le hl h.1)⟩
theorem Oth.grows {D : Nat} {w w' w'' : World} (h : Oth D w w') (g : Grows w' w'') : Oth D w w'' := h.then (Oth.of g)
theorem own_one {b n : Nat} {w w' : World} {x y : Int} (hn : w.heap.size = n) (hb : b ≤ n) (he : w.alloc (.cells #[.int .i64 x, .int .i64 y] 37) = w') : Own b w' (.slice (some ⟨n, 0, none⟩) 1 1) [(x, y)] := by
 subst he hn
 refine ⟨by simp [flat], .inr ⟨_, 1, #[.int .i64 x, .int .i64 y], rfl, hb, heap_alloc_new w _, by simp, by unfold maxLen; omega, rfl, ?_⟩⟩
 simp [flat]

set_option maxHeartbeats 400000 in
theorem spot_any (n : Int) (w : World) (hn : 0 ≤ n) (h8 : n ≤ 8) :
  Calls Tryz.prog 32 #[.int .i64 n] w fun e w' => e = .returned (.agg #[.int .i64 (10 * (n % 3)), .int .i64 (10 * n.tdiv 3)]) ∧ Below w.heap.size w w' := by
 have C0 := has1 (w := w) [.int .i64 0, .int .i64 0] 37
 have e1 : 0 ≤ n % 3 ∧ n % 3 ≤ 2 := by omega
 have e2 : 0 ≤ n.tdiv 3 ∧ n.tdiv 3 ≤ 2 := by rw [Int.tdiv_eq_ediv_of_nonneg hn]; omega
 have w1 : IntKind.i64.wrap (10 * (n % 3)) = 10 * (n % 3) := by rw [IntKind.wrap_i64]; omega
 have w2 : IntKind.i64.wrap (10 * n.tdiv 3) = 10 * n.tdiv 3 := by rw [IntKind.wrap_i64]; omega
 have w3 : IntKind.i64.wrap (n.tdiv 3) = n.tdiv 3 := by rw [IntKind.wrap_i64]; omega
 go_enter Tryz.func32, Tryz.ntmps32
 go_upto_region 1 with fail
 change Has w _ (w.alloc (.cells #[.int .i64 0, .int .i64 0] 37)) at C0
 generalize w.alloc (.cells #[.int .i64 0, .int .i64 0] 37) = w0 at *
 have k0 := C0.fact (.head _) (i := 0) rfl
 have k1 := C0.fact (.head _) (i := 1) rfl
 have f0 := C0.free (.head _) (i := 0) rfl
 have f1 := C0.free (.head _) (i := 1) rfl
 have C1 := C0.set2 (.int .i64 (10 * (n % 3))) (.int .i64 (10 * n.tdiv 3))
 go_wp2_with fail
 generalize World.setCell (World.setCell w0 ⟨w.heap.size, 0, none⟩ (.int .i64 (10 * (n % 3)))) ⟨w.heap.size, 1, none⟩ (.int .i64 (10 * n.tdiv 3)) = w1 at *
 have d0 := C1.fact (.head _) (i := 0) rfl
 have d1 := C1.fact (.head _) (i := 1) rfl
 exact bodyPost_ret (v := .agg #[.int .i64 (10 * (n % 3)), .int .i64 (10 * n.tdiv 3)]) (by simp [results, Tryz.results32, go_sem, d0, d1]) rfl ⟨rfl, C1.low⟩

end Go.Proofs.YtoaldbjcpfkcjaaGreat
