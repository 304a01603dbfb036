/- Words for the law of moves. -/
import Derived.Test.YtmldgjhecoeldaaLBs
namespace Go.Proofs.Ytmldgjhecoeldaa
open Go.RowKit Go.Lib

/-- The append in a region that draws its order. -/
theorem held_append_pts {o : Oper} {y : Nat → Option Bool} {a : Act} {w : World} {K : Act → World → Prop} {Q : Exit → Act → World → Prop} {R : Prop} (hw : Region.wanted o y = true) (s x : Operand)
    (ho : o.op = .call { callee := .builtin .append, args := #[s, x], argTypes := #[25, 25] }) {b : Nat} {v vx : Value} {ps qs : List (Int × Int)} (hs : a.eval s = v) (h : Own b w v ps)
    (hx : a.eval x = vx) (hr : RowP w vx qs) (hn : ps.length + qs.length ≤ 100000) (hb : b ≤ w.heap.size)
    (hK : ∀ v' w', Own b w' v' (ps ++ qs) → w.grownBy w' v.ownBlock → K (a.put o.dst v') w') : if Region.wanted o y = true then Oper.wp Try.prog o a w K Q else R := by
  rw [if_pos hw]
  obtain ⟨v', w', e1, e2, e3⟩ := run_append_own o.type h hr hn hb
  unfold Oper.wp execOp
  simp only [ho, resolve, invoke, builtin, Sem.run_bind, Sem.run_pure, Result.andThen_ok, List.map_toArray, List.map_cons, List.map_nil, hs, hx, e1]
  exact hK v' w' e2 e3
theorem radd_is (a b c d x y : Int) (h : wrap64 (a + c) = x ∧ wrap64 (b + d) = y) (w : World) :
    Calls Try.prog 24 #[.agg #[.int .i64 a, .int .i64 b], .agg #[.int .i64 c, .int .i64 d]] w fun e w' => e = .returned (.agg #[.int .i64 x, .int .i64 y]) ∧ Below w.heap.size w w' := by
  obtain ⟨rfl, rfl⟩ := h
  exact radd_any a b c d w
theorem rot_tqn {T : Nat} (hT : T ≤ 3) {x y : Int} (hx : -100000 ≤ x ∧ x ≤ 100000) (hy : -100000 ≤ y ∧ y ≤ 100000) : rotN T x y = tqn T (x, y) := by
  have e1 : wrap64 (-y) = -y := IntWalk.wrap64_in _ (by omega)
  have e2 : wrap64 (-x) = -x := IntWalk.wrap64_in _ (by omega)
  have e3 : wrap64 y = y := IntWalk.wrap64_in _ (by omega)
  rcases Geo.four hT with rfl | rfl | rfl | rfl
  · rfl
  · simp only [rotN, tqn, tq, e1]
  · simp only [rotN, tqn, tq, e1, e2]
  · simp only [rotN, tqn, tq, e1, e2, e3, Int.neg_neg]
theorem move_pt {T : Nat} (hT : T ≤ 3) {x y u v tx ty mx my : Int} (hx : -30 ≤ x ∧ x ≤ 30) (hy : -30 ≤ y ∧ y ≤ 30) (hu : -1000 < u ∧ u < 1000) (hv : -1000 < v ∧ v < 1000)
    (ht : rotN ((T : Int) % 4).toNat x y = (tx, ty)) (hm : mvt T u v (x, y) = (mx, my)) : (wrap64 (tx + u) = mx ∧ wrap64 (ty + v) = my) ∧ (-1030 ≤ mx ∧ mx ≤ 1030) ∧ (-1030 ≤ my ∧ my ≤ 1030) := by
  rw [show ((T : Int) % 4).toNat = T by omega, rot_tqn hT (by omega) (by omega)] at ht
  have hb := tqn_bd (t := T) hT (p := (x, y)) (B := 30) ⟨hx, hy⟩
  rw [ht] at hb
  unfold mvt tv at hm
  rw [ht] at hm
  simp only [Prod.mk.injEq] at hm
  obtain ⟨rfl, rfl⟩ := hm
  exact ⟨⟨IntWalk.wrap64_in _ (by omega), IntWalk.wrap64_in _ (by omega)⟩, by omega, by omega⟩
theorem pt_map {f : Int × Int → Int × Int} {l : List (Int × Int)} {k : Nat} (h : k < l.length) : pt (l.map f) k = f (pt l k) := by
  have h1 := at_pt h
  have h2 : (l.map f)[k]? = some (f (pt l k)) := by rw [List.getElem?_map, h1]; rfl
  exact pt_of (x := (f (pt l k)).1) (y := (f (pt l k)).2) h2
theorem bdd_map {l : List (Int × Int)} {T : Nat} (hT : T ≤ 3) {u v : Int} (h : Bdd 23 l) (hu : -1000 < u ∧ u < 1000) (hv : -1000 < v ∧ v < 1000) : Bdd 2000 (l.map (mvt T u v)) := by
  intro k hk
  rw [List.length_map] at hk
  rw [pt_map hk]
  have h1 := h k hk
  have hb := tqn_bd (t := T) hT (p := pt l k) (B := 23) h1
  unfold mvt tv
  dsimp only
  omega
theorem moves_law {l : List (Int × Int)} {T : Nat} (hT : T ≤ 3) {u v x y : Int} (h : Bdd 23 l) (hu : -1000 < u ∧ u < 1000) (hv : -1000 < v ∧ v < 1000) (hx : -30 ≤ x ∧ x ≤ 30) (hy : -30 ≤ y ∧ y ≤ 30) :
    rchkP (l.map (mvt T u v)) = rchkP l ∧ insP (l.map (mvt T u v)) (mvt T u v (x, y)) = insP l (x, y) := by
  have h1 := all_of_bdd (by omega) h
  have h2 := all_of_bdd (by omega) (bdd_map hT h hu hv)
  have hb := tqn_bd (t := T) hT (p := (x, y)) (B := 30) ⟨hx, hy⟩
  refine ⟨check_mvt hT (List.length_map ..) (fun k hk => pt_map hk) h1 h2, inside_mvt hT (List.length_map ..) (fun k hk => pt_map hk) rfl h1 h2 (in_of (B := 30) (by omega) ⟨hx, hy⟩) (in_of (B := 2000) (by omega) ?_)⟩
  unfold mvt tv
  dsimp only
  omega
theorem bdd_set {l : List (Int × Int)} {B : Int} (h : Bdd B l) (i : Nat) {x y : Int} (hx : -B ≤ x ∧ x ≤ B) (hy : -B ≤ y ∧ y ≤ B) : Bdd B (l.set i (x, y)) := by
  intro k hk
  rw [List.length_set] at hk
  by_cases e : i = k
  · subst e
    have e2 : pt (l.set i (x, y)) i = (x, y) := pt_of (by rw [List.getElem?_set, if_pos rfl, if_pos hk])
    rw [e2]; exact ⟨hx, hy⟩
  · have e2 : pt (l.set i (x, y)) k = pt l k := by unfold pt; rw [List.getElem?_set, if_neg e]
    rw [e2]; exact h k hk
theorem MadeR.bdd {r : List (Int × Int)} (h : MadeR r) : Bdd 23 r := by
  obtain ⟨m, t, X, L, H, hM⟩ := h.m
  exact hM.bdd

end Go.Proofs.Ytmldgjhecoeldaa
