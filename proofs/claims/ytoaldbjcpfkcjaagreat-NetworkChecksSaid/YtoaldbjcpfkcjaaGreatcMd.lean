/- The ways that numbers make. -/
import Derived.Test.YtoaldbjcpfkcjaaGreatcWb
namespace Go.Proofs.YtoaldbjcpfkcjaaGreat
open Go.RowKit Go.Lib

/-- What is known of made ways. -/
structure MdW (ws : List Wy) : Prop where
 len : ws.length ≤ 6
 id : ∀ (i : Nat) (t : Wy), ws[i]? = some t → t.id = (i : Int) + 1
 at' : ∀ t ∈ ws, (-1 ≤ t.lv ∧ t.lv ≤ 1) ∧ (1 ≤ t.wt ∧ t.wt ≤ 20) ∧ (2 ≤ t.ln.length ∧ t.ln.length ≤ 3) ∧ ∀ p ∈ t.ln, (0 ≤ p.1 ∧ p.1 ≤ 20) ∧ (0 ≤ p.2 ∧ p.2 ≤ 20)
theorem MdW.nil : MdW [] := ⟨by simp, fun i t h => by simp at h, fun t h => by cases h⟩
theorem MdW.snoc {ws : List Wy} (h : MdW ws) {t : Wy} (hl : ws.length ≤ 5) (h1 : t.id = ws.length + 1) (h2 : (-1 ≤ t.lv ∧ t.lv ≤ 1) ∧ (1 ≤ t.wt ∧ t.wt ≤ 20) ∧ (2 ≤ t.ln.length ∧ t.ln.length ≤ 3) ∧ ∀ p ∈ t.ln, (0 ≤ p.1 ∧ p.1 ≤ 20) ∧ (0 ≤ p.2 ∧ p.2 ≤ 20)) : MdW (ws ++ [t]) := by
 refine ⟨by simp; omega, fun i t' h' => ?_, fun t' h' => ?_⟩
 ·rw [List.getElem?_append] at h'
  split at h'
  ·exact h.id i t' h'
  ·next hn =>
   have hi : i - ws.length = 0 := by
    rcases Nat.eq_zero_or_pos (i - ws.length) with e | e
    ·exact e
    ·rw [List.getElem?_eq_none (by simp; omega)] at h'; cases h'
   rw [hi] at h'
   cases h'
   rw [h1]; omega
 ·rcases List.mem_append.1 h' with h' | h'
  ·exact h.at' t' h'
  ·rw [List.mem_singleton] at h'; subst h'; exact h2
theorem Has.pick2 {w0 w : World} {bs : List (Nat × List Value)} (h : Has w0 bs w) {p q : Nat × List Value} (hp : p ∈ bs) (hq : q ∈ bs) (hn : p.1 ≠ q.1) : Has w0 [p, q] w := by
 refine ⟨fun r hr => ?_, fun r hr => ?_, fun r hr => ?_, ?_, h.low⟩
 ·simp only [List.mem_cons, List.not_mem_nil, or_false] at hr
  rcases hr with rfl | rfl
  ·exact h.c _ hp
  ·exact h.c _ hq
 ·simp only [List.mem_cons, List.not_mem_nil, or_false] at hr
  rcases hr with rfl | rfl
  ·exact h.lt _ hp
  ·exact h.lt _ hq
 ·simp only [List.mem_cons, List.not_mem_nil, or_false] at hr
  rcases hr with rfl | rfl
  ·exact h.ge _ hp
  ·exact h.ge _ hq
 ·simp only [List.pairwise_cons, List.mem_singleton, forall_eq, List.not_mem_nil, false_imp_iff, implies_true, List.Pairwise.nil, and_true]
  exact hn
theorem spot_ex (n : Int) (w : World) (hn : 0 ≤ n) (h8 : n < 9) :
  Calls Tryz.prog 32 #[.int .i64 n] w fun e w' => ∃ x y, (0 ≤ x ∧ x ≤ 20) ∧ (0 ≤ y ∧ y ≤ 20) ∧ e = .returned (.agg #[.int .i64 x, .int .i64 y]) ∧ Below w.heap.size w w' := by
 refine (spot_any n w hn (by omega)).mono ?_
 rintro e w' ⟨rfl, h⟩
 exact ⟨_, _, by omega, by rw [Int.tdiv_eq_ediv_of_nonneg hn]; omega, rfl, h⟩
theorem held_store_has {o : Oper} {y : Nat → Option Bool} {a : Act} {w : World} {K : Act → World → Prop} {Q : Exit → Act → World → Prop} {R : Prop} (hw : Region.wanted o y = true) {p x : Operand} {T : TypeId} (ho : o.op = .store T p x) (hd : o.dst = none) {w0 : World} {b : Nat} {bs : List (Nat × List Value)} {old vs : List Value}
  (hp : a.eval p = .pointer (some ⟨b, 0, none⟩)) (hx : a.eval x = .agg vs.toArray) (h : Has w0 ((b, old) :: bs) w) (hl : old.length = vs.length) (hi : (Tryz.prog.info? T).map (·.size) = some vs.length) (h1 : ∀ v ∈ vs, v.oneCell' = true)
  (hK : ∀ w', Has w0 ((b, vs) :: bs) w' → Oth b w w' → K a w') : if Region.wanted o y = true then Oper.wp Tryz.prog o a w K Q else R := by
 rw [if_pos hw]
 exact upd_store ho hd hp hx h hl hi h1 hK
theorem level_at {j : Nat} (h : j < 4) : ∃ l : Int, ([.int .i64 0, .int .i64 0, .int .i64 1, .int .i64 (-1)] : List Value)[j]? = some (.int .i64 l) ∧ -1 ≤ l ∧ l ≤ 1 := by
 rcases j with _ | _ | _ | _ | j
 ·exact ⟨0, rfl, by omega⟩
 ·exact ⟨0, rfl, by omega⟩
 ·exact ⟨1, rfl, by omega⟩
 ·exact ⟨-1, rfl, by omega⟩
 ·omega
theorem Has.ne_at {w0 w : World} {bs : List (Nat × List Value)} (h : Has w0 bs w) (i j : Nat) {p q : Nat × List Value} (hi : bs[i]? = some p) (hj : bs[j]? = some q) (hne : i ≠ j) : p.1 ≠ q.1 := by
 obtain ⟨hi1, hi2⟩ := List.getElem?_eq_some_iff.1 hi
 obtain ⟨hj1, hj2⟩ := List.getElem?_eq_some_iff.1 hj
 have hp := List.pairwise_iff_getElem.1 h.nd
 rcases Nat.lt_or_gt_of_ne hne with g | g
 ·have := hp i j hi1 hj1 g
  rw [hi2, hj2] at this; exact this
 ·have := hp j i hj1 hi1 g
  rw [hi2, hj2] at this; exact this.symm
theorem Oth.cell {b A i : Nat} {w w' : World} (O : Oth b w w') (hne : A ≠ b) (hlt : A < w.heap.size) : w'.cell? ⟨A, i, none⟩ = w.cell? ⟨A, i, none⟩ := by
 unfold World.cell?
 simp only [O.2 A hne hlt]
theorem Oth.thenNew {D B : Nat} {w w' w'' : World} (h : Oth D w w') (hB : w.heap.size ≤ B) (g : Oth B w' w'') : Oth D w w'' :=
 ⟨Nat.le_trans h.1 g.1, fun k hk hl => (g.2 k (by omega) (Nat.lt_of_lt_of_le hl h.1)).trans (h.2 k hk hl)⟩
theorem Oth.own1 {B L b n c : Nat} {w w' : World} {ps : List (Int × Int)} (h : Oth B w w') (hL : L ≠ B) (ho : Own b w (.slice (some ⟨L, 0, none⟩) n c) ps) : Own b w' (.slice (some ⟨L, 0, none⟩) n c) ps :=
 ownsRow_same ho fun k e => by
  cases e
  exact h.2 _ hL (World.ownsRow.lt ho _ rfl).2
/-- A way as it is made first. -/
def P8 (w : World) (D' : Nat) (v0 : Value) (k : Int) (w4 : World) (p : Value) (W : World) : Prop :=
 ∃ (B L : Nat) (t' x y lv wt : Int), p = .pointer (some ⟨B, 0, none⟩) ∧ Has w [(B, [.int .i64 (1 + k), .slice (some ⟨L, 0, none⟩) 1 1, .int .i64 lv, .string { data := #[112, 97, 116, 104] }, .string { data := #[] }, .bool false, .int .i64 (1 + wt), .int .i64 1]), (D', [v0, .int .i64 t'])] W ∧
  Oth D' w4 W ∧ Own w4.heap.size W (.slice (some ⟨L, 0, none⟩) 1 1) [(x, y)] ∧ (0 ≤ x ∧ x ≤ 20) ∧ (0 ≤ y ∧ y ≤ 20) ∧ (-1 ≤ lv ∧ lv ≤ 1) ∧ (0 ≤ wt ∧ wt < 20) ∧ 0 ≤ t' ∧ w4.heap.size ≤ B ∧ L ≠ B
/-- A way whose line grows. -/
def P9 (w : World) (D' : Nat) (v0 : Value) (B : Nat) (vs : Value → List Value) (lo hi : Nat) (w4 W : World) : Prop :=
 ∃ (u : Value) (ps : List (Int × Int)) (t' : Int), Has w [(B, vs u), (D', [v0, .int .i64 t'])] W ∧ Oth D' w4 W ∧ Own w4.heap.size W u ps ∧ u.ownBlock ≠ some B ∧ (lo ≤ ps.length ∧ ps.length ≤ hi) ∧ (∀ p ∈ ps, (0 ≤ p.1 ∧ p.1 ≤ 20) ∧ (0 ≤ p.2 ∧ p.2 ≤ 20)) ∧ 0 ≤ t'
theorem held_append_pts2 {o : Oper} {y : Nat → Option Bool} {a : Act} {w : World} {K : Act → World → Prop} {Q : Exit → Act → World → Prop} {R : Prop} (hw : Region.wanted o y = true) (s x : Operand)
  (ho : o.op = .call { callee := .builtin .append, args := #[s, x], argTypes := #[42, 42] }) {b : Nat} {v vx : Value} {ps : List (Int × Int)} {q : Int × Int} (hs : a.eval s = v) (h : Own b w v ps)
  (hx : a.eval x = vx) (hr : RowP w vx [q]) (hn : ps.length ≤ 100) (hb : b ≤ w.heap.size)
  (hK : ∀ v' w', Own b w' v' (ps ++ [q]) → w.grownBy w' v.ownBlock → (v'.ownBlock = v.ownBlock ∨ v'.ownBlock = some w.heap.size) → K (a.put o.dst v') w') : if Region.wanted o y = true then Oper.wp Tryz.prog o a w K Q else R := by
 rw [if_pos hw]
 obtain ⟨v', w', e1, e2, e3⟩ := run_append_own o.type h hr (by simp; omega) hb
 have e4 : v'.ownBlock = v.ownBlock ∨ v'.ownBlock = some w.heap.size := by
  obtain ⟨i0, hi, hz0, hz1, hz2⟩ := info_parts info24
  obtain ⟨ad, cap, rfl, hc, h1, h2⟩ : ∃ ad cap, vx = .slice (some ad) 1 cap ∧ 1 ≤ cap ∧ w.cell? (ad.add 0) = some (.int .i64 q.1) ∧ w.cell? (ad.add 1) = some (.int .i64 q.2) := by
   obtain ⟨a', cap, rfl, g1, g2, g3⟩ := hr
   rcases g3 with g3 | ⟨bb, o', rfl, g4⟩
   ·simp at g3
   ·obtain ⟨c0, c1⟩ := g4 0 q rfl
    refine ⟨_, cap, rfl, by simpa using g1, ?_, ?_⟩
    ·rw [Go.WideShapes.add_plain]; simpa using c0
    ·rw [Go.WideShapes.add_plain]; simpa using c1
  obtain ⟨v2, w2, f1, -, -, -, f5⟩ := run_append_own_at (P := Tryz.prog) w b 42 o.type 37 i0 (.agg #[.int .i64 0, .int .i64 0]) 2 16 Tryz.underlying42 hi hz0 hz1 hz2 rfl (by decide) v ps.length (flat ps) h ad 1 cap [.int .i64 q.1, .int .i64 q.2] rfl
   (by
    intro j u hj
    match j, hj with
    | 0, hj => cases hj; exact h1
    | 1, hj => cases hj; exact h2
    | j + 2, hj => simp at hj)
   (by intro u hu; simp only [List.mem_cons, List.not_mem_nil, or_false] at hu; rcases hu with rfl | rfl <;> rfl) (by unfold maxLen; omega) (by omega) hb
  rw [e1] at f1
  cases f1
  exact f5
 unfold Oper.wp execOp
 simp only [ho, resolve, invoke, builtin, Sem.run_bind, Sem.run_pure, Result.andThen_ok, List.map_toArray, List.map_cons, List.map_nil, hs, hx, e1]
 exact hK v' w' e2 e3 e4
theorem Oth.append {D : Nat} {w W W' : World} {o : Option Nat} (h : Oth D w W) (hk : ∀ k, o = some k → w.heap.size ≤ k) (g : W.grownBy W' o) : Oth D w W' :=
 ⟨Nat.le_trans h.1 g.size, fun k hkD hl => (g.block k (Nat.lt_of_lt_of_le hl h.1) (fun e => by have := hk k e.symm; omega)).trans (h.2 k hkD hl)⟩
theorem Has.grownN {w W W' : World} {bs : List (Nat × List Value)} {o : Option Nat} (h : Has w bs W) (hn : ∀ p ∈ bs, o ≠ some p.1) (hw : ∀ k, o = some k → w.heap.size ≤ k) (hg : W.grownBy W' o) : Has w bs W' := by
 refine ⟨fun p hp i u hu => ?_, fun p hp => Nat.lt_of_lt_of_le (h.lt p hp) hg.size, h.ge, h.nd, h.low.grown hg h.low.size hw⟩
 obtain ⟨c1, c2⟩ := h.c p hp i u hu
 have hblock := hg.block p.1 (h.lt p hp) (fun e => hn p hp e.symm)
 constructor
 ·rw [← c1]; unfold World.cell?; simp only [hblock]
 ·rw [← c2]; unfold World.frozen?; simp only [hblock]
theorem Own.setB {b B i : Nat} {w : World} {v u : Value} {ps : List (Int × Int)} (h : Own b w v ps) (hB : v.ownBlock ≠ some B) : Own b (w.setCell ⟨B, i, none⟩ u) v ps :=
 ownsRow_same h fun k e => (Oth.set B i w u).2 k (fun e2 => hB (by rw [e, e2])) (World.ownsRow.lt h k e).2
set_option linter.unusedSimpArgs false in
set_option maxRecDepth 100000 in
set_option maxHeartbeats 8000000 in
theorem made_any (v : Value) (xs : List Int) (w : World) (R : RowN w v xs) :
  Calls Tryz.prog 9 #[v] w fun e w' => ∃ u ws, e = .returned u ∧ RowW w' u ws ∧ MdW ws ∧ Below w.heap.size w w' := by
 have HR := Lib.hid R
 obtain ⟨a, cap, rfl, -⟩ := R
 generalize xs.length = n at *
 have C0 := (Has.nil (Below.refl w.heap.size w)).push [.slice a n cap, .int .i64 0] 61
 obtain ⟨D, hD⟩ : ∃ D, w.heap.size = D := ⟨_, rfl⟩
 go_enter Tryz.func9, Tryz.ntmps9
 go_wp2_with fail
 change Has w [(w.heap.size, [.slice a n cap, .int .i64 0])] (w.alloc (.cells #[.slice a n cap, .int .i64 0] 61)) at C0
 generalize w.alloc (.cells #[.slice a n cap, .int .i64 0] 61) = w1 at *
 have hwD : w.heap.size ≤ w.heap.size + 1 := by omega
 generalize hD1 : w.heap.size = D' at *
 subst hD
 refine (next_any C0 HR.out (by decide) 7 (by decide) (by decide)).mono ?_
 rintro e w2 ⟨r, t, rfl, hr0, hr1, ht, C1, -⟩
 obtain ⟨M, rfl⟩ : ∃ M : Nat, r = (M : Int) := ⟨r.toNat, by omega⟩
 have hM : M ≤ 6 := by omega
 clear C0 hr0 hr1
 have hO0 := OwnW.nil (D' + 1) w2
 go_wp2_with fail
 go_loopw [4, 6] (fun o i wr => ∃ (k : Nat) (t : Int) (ws : List Wy), k ≤ M ∧ i = .int .i64 k ∧ ws.length = k ∧ Hid (MdW ws) ∧ 0 ≤ t ∧ Has w [(D', [.slice a n cap, .int .i64 t])] wr ∧ OwnW (D' + 1) wr o ws) (fun _ i _ => M - (RowKit.intOf i).toNat)
 case atStart => exact ⟨0, t, [], Nat.zero_le _, rfl, rfl, Lib.hid MdW.nil, ht, C1, hO0⟩
 case round =>
  clear C1 hO0 ht
  obtain ⟨k, t1, ws, hk, rfl, hlen, HW, ht1, hI, hO⟩ := hrel
  by_cases hlt : k < M
  ·have b1 : (k : Int) < M := by omega
   go_wp2_with fail
   refine (next_any hI HR.out ht1 9 (by decide) (by decide)).mono ?_
   rintro e w3 ⟨qa, t2, rfl, ha0, ha1, ht2, C2, O2⟩
   go_wp2_with fail
   refine (next_any C2 HR.out ht2 9 (by decide) (by decide)).mono ?_
   rintro e w4 ⟨qb, t3, rfl, hb0, hb1, ht3, C3, O3⟩
   have hO1 := Lib.hid ((hO.oth (by omega) O2).oth (by omega) O3)
   have hDP : D' < w4.heap.size := C3.lt0
   have hw4 : w.heap.size ≤ w4.heap.size := C3.low.size
   clear C2 O2 O3 hI ht1 ht2
   go_upto_region 8 with fail
   go_cut [9] (fun v wx => P8 w D' (.slice a n cap) k w4 v wx)
   case first =>
    have C := C3.drew
    have P : Oth D' w4 w4.drew := Oth.of ((Below.refl _ w4).drew)
    have hu1 : IntKind.i64.wrap (1 + (k : Int)) = 1 + (k : Int) := by rw [IntKind.wrap_i64]; omega
    have ht := ht3
    have M13 := True.intro
    refine wp_region_held_drew (S := fun w' => Below w.heap.size w w') (by kernel_rfl) C.low (fun hHeld => ?_)
    clear C3
    generalize w4.drew = wx at *
    refine tbA [0] ?_
    refine tkA (.int .i64 k) (oi := ⟨some 24, .move (.tmp 6), 3, _, _, none⟩) ?_
    simp only [Act.put, pA, pB, pC]
    refine teA ?_
    refine tbA [3] ?_
    refine tkA (.pointer (some ⟨D', 0, none⟩)) (oi := ⟨some 27, .move (.tmp 3), 59, _, _, none⟩) ?_
    simp only [Act.put, pA, pB, pC]
    refine teA ?_
    refine tbA [7] ?_
    refine tkA (.pointer (some ⟨D', 0, none⟩)) (oi := ⟨some 31, .move (.tmp 3), 59, _, _, none⟩) ?_
    simp only [Act.put, pA, pB, pC]
    refine teA ?_
    refine tbA [10] ?_
    refine tkA (.int .i64 qa) (oi := ⟨some 34, .move (.tmp 7), 3, _, _, none⟩) ?_
    simp only [Act.put, pA, pB, pC]
    refine teA ?_
    refine tbA [1] ?_
    refine tkA (.int .i64 (1 + (k : Int))) (oi := ⟨some 25, .binOp .add 3 (.const (.int .i64 1)) (.tmp 24) 3, 3, _, _, none⟩) ?_
    simp only [Act.put, pA, pB, pC]
    refine teA ?_
    iterate 7
     all_goals
      (first | refine wpAnyH_ready (rs := [2, 4, 14]) (by decide +kernel) (by simp) ?_ | refine wpAnyH_ready (rs := [2, 8, 14]) (by decide +kernel) (by simp) ?_ | refine wpAnyH_ready (rs := [2, 11, 14]) (by decide +kernel) (by simp) ?_ | refine wpAnyH_ready (rs := [2, 12, 14]) (by decide +kernel) (by simp) ?_ | refine wpAnyH_ready (rs := [2, 4]) (by decide +kernel) (by simp) ?_ | refine wpAnyH_ready (rs := [2, 8]) (by decide +kernel) (by simp) ?_ | refine wpAnyH_ready (rs := [2, 11]) (by decide +kernel) (by simp) ?_ | refine wpAnyH_ready (rs := [2, 12]) (by decide +kernel) (by simp) ?_ | refine wpAnyH_ready (rs := [2, 14]) (by decide +kernel) (by simp) ?_ | refine wpAnyH_ready (rs := [4, 14]) (by decide +kernel) (by simp) ?_ | refine wpAnyH_ready (rs := [8, 14]) (by decide +kernel) (by simp) ?_ | refine wpAnyH_ready (rs := [11, 14]) (by decide +kernel) (by simp) ?_ | refine wpAnyH_ready (rs := [12, 14]) (by decide +kernel) (by simp) ?_ | refine wpAnyH_ready (rs := [2]) (by decide +kernel) (by simp) ?_ | refine wpAnyH_ready (rs := [4]) (by decide +kernel) (by simp) ?_ | refine wpAnyH_ready (rs := [8]) (by decide +kernel) (by simp) ?_ | refine wpAnyH_ready (rs := [11]) (by decide +kernel) (by simp) ?_ | refine wpAnyH_ready (rs := [12]) (by decide +kernel) (by simp) ?_ | refine wpAnyH_ready (rs := [14]) (by decide +kernel) (by simp) ?_ | refine wpAnyH_ready (rs := [15]) (by decide +kernel) (by simp) ?_)
      repeat
       first
       | exact AllReadyH.nil
       | (
        refine AllReadyH.cons (o := ⟨some 26, .buildSlice 22 4 #[(0, .const (.int .i64 0)), (1, .const (.int .i64 0)), (2, .const (.int .i64 1)), (3, .const (.int .i64 (-1)))], 22, _, _, none⟩) rfl (fun K hK => ?_) ?_
        focus
         go_simp
         have C1 := (C.push [.int .i64 0, .int .i64 0, .int .i64 1, .int .i64 (-1)] 3).swap
         have P1 := P.grows ((Below.refl _ wx).alloc (Nat.le_refl _) (.cells #[.int .i64 0, .int .i64 0, .int .i64 1, .int .i64 (-1)] 3))
         have hzA26 := P.1
         try (have L1 := hLx.later ((Below.refl _ wx).alloc (Nat.le_refl _) (.cells #[.int .i64 0, .int .i64 0, .int .i64 1, .int .i64 (-1)] 3)); clear hLx; have hLx := L1; clear L1; change Own w4.heap.size (wx.alloc (.cells #[.int .i64 0, .int .i64 0, .int .i64 1, .int .i64 (-1)] 3)) _ _ at hLx)
         change Has w _ (wx.alloc (.cells #[.int .i64 0, .int .i64 0, .int .i64 1, .int .i64 (-1)] 3)) at C1
         change Oth D' w4 (wx.alloc (.cells #[.int .i64 0, .int .i64 0, .int .i64 1, .int .i64 (-1)] 3)) at P1
         generalize wx.heap.size = A26 at *
         generalize wx.alloc (.cells #[.int .i64 0, .int .i64 0, .int .i64 1, .int .i64 (-1)] 3) = wx at *
         clear hHeld
         refine hK.out _ _ (by first | exact C1.low | exact ⟨(by first | exact C1.fact (.tail _ (.head _)) (i := j) hlq.out.1 | exact C1.fact (.tail _ (.tail _ (.head _))) (i := j) hlq.out.1 | exact C1.fact (.tail _ (.tail _ (.tail _ (.head _)))) (i := j) hlq.out.1), C1.low⟩) (fun hHeld => ?_)
         clear hK K C P
         have C := C1
         have P := P1
         clear C1 P1
         try simp only [pA, pB, pC]
         try (obtain ⟨lq, hlq⟩ := level_at hj4; replace hlq := Lib.hid hlq; refine wpAnyH_more (T := fun w' => w'.cell? ⟨A26, j, none⟩ = some (.int .i64 lq) ∧ Below w.heap.size w w') (fun _ h => h.2) _ _ _ _ ?_; clear hHeld; have hHeld : (fun w' => w'.cell? ⟨A26, j, none⟩ = some (.int .i64 lq) ∧ Below w.heap.size w w') wx := ⟨(by first | exact C.fact (.tail _ (.head _)) (i := j) hlq.out.1 | exact C.fact (.tail _ (.tail _ (.head _))) (i := j) hlq.out.1 | exact C.fact (.tail _ (.tail _ (.tail _ (.head _)))) (i := j) hlq.out.1), C.low⟩; dsimp only at hHeld; refine tbA [5] ?_; refine wpAnyT_take (oi := ⟨some 29, .indexAddr 22 (.tmp 26) (.tmp 28), 0, _, _, none⟩) (v := .pointer (some ⟨A26, j, none⟩)) rfl (fun _ _ _ h => h) (by rfl) (by assumption) (fun wS hSw => by (try dsimp only at hSw); go_simp) ?_; simp only [Act.put, pA, pB, pC]; refine teA ?_; refine tbA [6] ?_; refine wpAnyT_take (oi := ⟨some 30, .load 3 (.tmp 29), 3, _, _, none⟩) (v := .int .i64 lq) rfl (fun _ _ _ h => h) (by rfl) (by assumption) (fun wS hSw => by (try dsimp only at hSw); go_simp) ?_; simp only [Act.put, pA, pB, pC]; refine teA ?_)
         try (clear M13; refine tbA [13] ?_; refine wpAnyT_take (oi := ⟨some 37, .build 44 #[(0, .tmp 25), (2, .tmp 30), (6, .tmp 33), (3, .const (.string { data := #[112, 97, 116, 104] })), (7, .const (.int .i64 1)), (1, .tmp 36)], 44, _, _, none⟩) (v := .agg #[.int .i64 (1 + (k : Int)), .slice (some ⟨L36, 0, none⟩) 1 1, .int .i64 lq, .string { data := #[112, 97, 116, 104] }, .string { data := #[] }, .bool false, .int .i64 (1 + qw), .int .i64 1]) rfl (fun _ _ _ h => h) (by rfl) (by assumption) (fun wS hSw => by (try dsimp only at hSw); go_simp) ?_; simp only [Act.put, pA, pB, pC]; refine teA ?_)
        rotate_left)
       | (
        refine AllReadyH.cons (o := ⟨some 28, .call { callee := .value (.func 31), args := #[.tmp 27, .const (.int .i64 4)], argTypes := #[59, 3] }, 3, _, _, none⟩) rfl (fun K hK => ?_) ?_
        focus
         go_simp
         go_at_call 31
         refine (next_any C HR.out ht 4 (by decide) (by decide)).mono ?_
         clear ht
         rintro e wx ⟨qj, t, rfl, hqj0, hqj1, ht, C1, O1⟩
         have P1 := P.then O1
         clear O1
         obtain ⟨j, rfl⟩ : ∃ j : Nat, qj = (j : Int) := ⟨qj.toNat, by omega⟩
         have hj4 : j < 4 := by omega
         have hj4i : (j : Int) < 4 := by omega
         go_wp2_with fail
         clear hHeld
         refine hK.out _ _ (by first | exact C1.low | exact ⟨(by first | exact C1.fact (.tail _ (.head _)) (i := j) hlq.out.1 | exact C1.fact (.tail _ (.tail _ (.head _))) (i := j) hlq.out.1 | exact C1.fact (.tail _ (.tail _ (.tail _ (.head _)))) (i := j) hlq.out.1), C1.low⟩) (fun hHeld => ?_)
         clear hK K C P
         have C := C1
         have P := P1
         clear C1 P1
         try simp only [pA, pB, pC]
         try (obtain ⟨lq, hlq⟩ := level_at hj4; replace hlq := Lib.hid hlq; refine wpAnyH_more (T := fun w' => w'.cell? ⟨A26, j, none⟩ = some (.int .i64 lq) ∧ Below w.heap.size w w') (fun _ h => h.2) _ _ _ _ ?_; clear hHeld; have hHeld : (fun w' => w'.cell? ⟨A26, j, none⟩ = some (.int .i64 lq) ∧ Below w.heap.size w w') wx := ⟨(by first | exact C.fact (.tail _ (.head _)) (i := j) hlq.out.1 | exact C.fact (.tail _ (.tail _ (.head _))) (i := j) hlq.out.1 | exact C.fact (.tail _ (.tail _ (.tail _ (.head _)))) (i := j) hlq.out.1), C.low⟩; dsimp only at hHeld; refine tbA [5] ?_; refine wpAnyT_take (oi := ⟨some 29, .indexAddr 22 (.tmp 26) (.tmp 28), 0, _, _, none⟩) (v := .pointer (some ⟨A26, j, none⟩)) rfl (fun _ _ _ h => h) (by rfl) (by assumption) (fun wS hSw => by (try dsimp only at hSw); go_simp) ?_; simp only [Act.put, pA, pB, pC]; refine teA ?_; refine tbA [6] ?_; refine wpAnyT_take (oi := ⟨some 30, .load 3 (.tmp 29), 3, _, _, none⟩) (v := .int .i64 lq) rfl (fun _ _ _ h => h) (by rfl) (by assumption) (fun wS hSw => by (try dsimp only at hSw); go_simp) ?_; simp only [Act.put, pA, pB, pC]; refine teA ?_)
         try (clear M13; refine tbA [13] ?_; refine wpAnyT_take (oi := ⟨some 37, .build 44 #[(0, .tmp 25), (2, .tmp 30), (6, .tmp 33), (3, .const (.string { data := #[112, 97, 116, 104] })), (7, .const (.int .i64 1)), (1, .tmp 36)], 44, _, _, none⟩) (v := .agg #[.int .i64 (1 + (k : Int)), .slice (some ⟨L36, 0, none⟩) 1 1, .int .i64 lq, .string { data := #[112, 97, 116, 104] }, .string { data := #[] }, .bool false, .int .i64 (1 + qw), .int .i64 1]) rfl (fun _ _ _ h => h) (by rfl) (by assumption) (fun wS hSw => by (try dsimp only at hSw); go_simp) ?_; simp only [Act.put, pA, pB, pC]; refine teA ?_)
        rotate_left)
       | (
        refine AllReadyH.cons (o := ⟨some 32, .call { callee := .value (.func 31), args := #[.tmp 31, .const (.int .i64 20)], argTypes := #[59, 3] }, 3, _, _, none⟩) rfl (fun K hK => ?_) ?_
        focus
         go_simp
         go_at_call 31
         refine (next_any C HR.out ht 20 (by decide) (by decide)).mono ?_
         clear ht
         rintro e wx ⟨qw, t, rfl, hqw0, hqw1, ht, C1, O1⟩
         have P1 := P.then O1
         clear O1
         have sw : IntKind.i64.wrap (1 + qw) = 1 + qw := by rw [IntKind.wrap_i64]; omega
         go_wp2_with fail
         clear hHeld
         refine hK.out _ _ (by first | exact C1.low | exact ⟨(by first | exact C1.fact (.tail _ (.head _)) (i := j) hlq.out.1 | exact C1.fact (.tail _ (.tail _ (.head _))) (i := j) hlq.out.1 | exact C1.fact (.tail _ (.tail _ (.tail _ (.head _)))) (i := j) hlq.out.1), C1.low⟩) (fun hHeld => ?_)
         clear hK K C P
         have C := C1
         have P := P1
         clear C1 P1
         try simp only [pA, pB, pC]
         refine tbA [9] ?_; refine wpAnyT_take (oi := ⟨some 33, .binOp .add 3 (.const (.int .i64 1)) (.tmp 32) 3, 3, _, _, none⟩) (v := .int .i64 (1 + qw)) rfl (fun _ _ _ h => h) (by rfl) (by assumption) (fun wS hSw => by (try dsimp only at hSw); go_simp) ?_; simp only [Act.put, pA, pB, pC]; refine teA ?_
         try (obtain ⟨lq, hlq⟩ := level_at hj4; replace hlq := Lib.hid hlq; refine wpAnyH_more (T := fun w' => w'.cell? ⟨A26, j, none⟩ = some (.int .i64 lq) ∧ Below w.heap.size w w') (fun _ h => h.2) _ _ _ _ ?_; clear hHeld; have hHeld : (fun w' => w'.cell? ⟨A26, j, none⟩ = some (.int .i64 lq) ∧ Below w.heap.size w w') wx := ⟨(by first | exact C.fact (.tail _ (.head _)) (i := j) hlq.out.1 | exact C.fact (.tail _ (.tail _ (.head _))) (i := j) hlq.out.1 | exact C.fact (.tail _ (.tail _ (.tail _ (.head _)))) (i := j) hlq.out.1), C.low⟩; dsimp only at hHeld; refine tbA [5] ?_; refine wpAnyT_take (oi := ⟨some 29, .indexAddr 22 (.tmp 26) (.tmp 28), 0, _, _, none⟩) (v := .pointer (some ⟨A26, j, none⟩)) rfl (fun _ _ _ h => h) (by rfl) (by assumption) (fun wS hSw => by (try dsimp only at hSw); go_simp) ?_; simp only [Act.put, pA, pB, pC]; refine teA ?_; refine tbA [6] ?_; refine wpAnyT_take (oi := ⟨some 30, .load 3 (.tmp 29), 3, _, _, none⟩) (v := .int .i64 lq) rfl (fun _ _ _ h => h) (by rfl) (by assumption) (fun wS hSw => by (try dsimp only at hSw); go_simp) ?_; simp only [Act.put, pA, pB, pC]; refine teA ?_)
         try (clear M13; refine tbA [13] ?_; refine wpAnyT_take (oi := ⟨some 37, .build 44 #[(0, .tmp 25), (2, .tmp 30), (6, .tmp 33), (3, .const (.string { data := #[112, 97, 116, 104] })), (7, .const (.int .i64 1)), (1, .tmp 36)], 44, _, _, none⟩) (v := .agg #[.int .i64 (1 + (k : Int)), .slice (some ⟨L36, 0, none⟩) 1 1, .int .i64 lq, .string { data := #[112, 97, 116, 104] }, .string { data := #[] }, .bool false, .int .i64 (1 + qw), .int .i64 1]) rfl (fun _ _ _ h => h) (by rfl) (by assumption) (fun wS hSw => by (try dsimp only at hSw); go_simp) ?_; simp only [Act.put, pA, pB, pC]; refine teA ?_)
        rotate_left)
       | (
        refine AllReadyH.cons (o := ⟨some 35, .call { callee := .value (.func 32), args := #[.tmp 34], argTypes := #[3] }, 37, _, _, none⟩) rfl (fun K hK => ?_) ?_
        focus
         go_simp
         go_at_call 32
         refine (spot_ex qa _ ha0 ha1).mono ?_
         rintro e wx ⟨sx, sy, hsx, hsy, rfl, g1⟩
         have C1 := C.later g1
         have P1 := P.grows g1
         clear g1
         go_wp2_with fail
         clear hHeld
         refine hK.out _ _ (by first | exact C1.low | exact ⟨(by first | exact C1.fact (.tail _ (.head _)) (i := j) hlq.out.1 | exact C1.fact (.tail _ (.tail _ (.head _))) (i := j) hlq.out.1 | exact C1.fact (.tail _ (.tail _ (.tail _ (.head _)))) (i := j) hlq.out.1), C1.low⟩) (fun hHeld => ?_)
         clear hK K C P
         have C := C1
         have P := P1
         clear C1 P1
         try simp only [pA, pB, pC]
         try (obtain ⟨lq, hlq⟩ := level_at hj4; replace hlq := Lib.hid hlq; refine wpAnyH_more (T := fun w' => w'.cell? ⟨A26, j, none⟩ = some (.int .i64 lq) ∧ Below w.heap.size w w') (fun _ h => h.2) _ _ _ _ ?_; clear hHeld; have hHeld : (fun w' => w'.cell? ⟨A26, j, none⟩ = some (.int .i64 lq) ∧ Below w.heap.size w w') wx := ⟨(by first | exact C.fact (.tail _ (.head _)) (i := j) hlq.out.1 | exact C.fact (.tail _ (.tail _ (.head _))) (i := j) hlq.out.1 | exact C.fact (.tail _ (.tail _ (.tail _ (.head _)))) (i := j) hlq.out.1), C.low⟩; dsimp only at hHeld; refine tbA [5] ?_; refine wpAnyT_take (oi := ⟨some 29, .indexAddr 22 (.tmp 26) (.tmp 28), 0, _, _, none⟩) (v := .pointer (some ⟨A26, j, none⟩)) rfl (fun _ _ _ h => h) (by rfl) (by assumption) (fun wS hSw => by (try dsimp only at hSw); go_simp) ?_; simp only [Act.put, pA, pB, pC]; refine teA ?_; refine tbA [6] ?_; refine wpAnyT_take (oi := ⟨some 30, .load 3 (.tmp 29), 3, _, _, none⟩) (v := .int .i64 lq) rfl (fun _ _ _ h => h) (by rfl) (by assumption) (fun wS hSw => by (try dsimp only at hSw); go_simp) ?_; simp only [Act.put, pA, pB, pC]; refine teA ?_)
         try (clear M13; refine tbA [13] ?_; refine wpAnyT_take (oi := ⟨some 37, .build 44 #[(0, .tmp 25), (2, .tmp 30), (6, .tmp 33), (3, .const (.string { data := #[112, 97, 116, 104] })), (7, .const (.int .i64 1)), (1, .tmp 36)], 44, _, _, none⟩) (v := .agg #[.int .i64 (1 + (k : Int)), .slice (some ⟨L36, 0, none⟩) 1 1, .int .i64 lq, .string { data := #[112, 97, 116, 104] }, .string { data := #[] }, .bool false, .int .i64 (1 + qw), .int .i64 1]) rfl (fun _ _ _ h => h) (by rfl) (by assumption) (fun wS hSw => by (try dsimp only at hSw); go_simp) ?_; simp only [Act.put, pA, pB, pC]; refine teA ?_)
        rotate_left)
       | (
        refine AllReadyH.cons (o := ⟨some 36, .buildSlice 42 1 #[(0, .tmp 35)], 42, _, _, none⟩) rfl (fun K hK => ?_) ?_
        focus
         go_simp
         have C1 := (C.push [.int .i64 sx, .int .i64 sy] 37).swap
         have P1 := P.grows ((Below.refl _ wx).alloc (Nat.le_refl _) (.cells #[.int .i64 sx, .int .i64 sy] 37))
         have hzL36 := P.1
         have hLx : Own w4.heap.size (wx.alloc (.cells #[.int .i64 sx, .int .i64 sy] 37)) (.slice (some ⟨wx.heap.size, 0, none⟩) 1 1) [(sx, sy)] := own_one rfl P.1 rfl
         change Has w _ (wx.alloc (.cells #[.int .i64 sx, .int .i64 sy] 37)) at C1
         change Oth D' w4 (wx.alloc (.cells #[.int .i64 sx, .int .i64 sy] 37)) at P1
         generalize wx.heap.size = L36 at *
         generalize wx.alloc (.cells #[.int .i64 sx, .int .i64 sy] 37) = wx at *
         clear hHeld
         refine hK.out _ _ (by first | exact C1.low | exact ⟨(by first | exact C1.fact (.tail _ (.head _)) (i := j) hlq.out.1 | exact C1.fact (.tail _ (.tail _ (.head _))) (i := j) hlq.out.1 | exact C1.fact (.tail _ (.tail _ (.tail _ (.head _)))) (i := j) hlq.out.1), C1.low⟩) (fun hHeld => ?_)
         clear hK K C P
         have C := C1
         have P := P1
         clear C1 P1
         try simp only [pA, pB, pC]
         try (obtain ⟨lq, hlq⟩ := level_at hj4; replace hlq := Lib.hid hlq; refine wpAnyH_more (T := fun w' => w'.cell? ⟨A26, j, none⟩ = some (.int .i64 lq) ∧ Below w.heap.size w w') (fun _ h => h.2) _ _ _ _ ?_; clear hHeld; have hHeld : (fun w' => w'.cell? ⟨A26, j, none⟩ = some (.int .i64 lq) ∧ Below w.heap.size w w') wx := ⟨(by first | exact C.fact (.tail _ (.head _)) (i := j) hlq.out.1 | exact C.fact (.tail _ (.tail _ (.head _))) (i := j) hlq.out.1 | exact C.fact (.tail _ (.tail _ (.tail _ (.head _)))) (i := j) hlq.out.1), C.low⟩; dsimp only at hHeld; refine tbA [5] ?_; refine wpAnyT_take (oi := ⟨some 29, .indexAddr 22 (.tmp 26) (.tmp 28), 0, _, _, none⟩) (v := .pointer (some ⟨A26, j, none⟩)) rfl (fun _ _ _ h => h) (by rfl) (by assumption) (fun wS hSw => by (try dsimp only at hSw); go_simp) ?_; simp only [Act.put, pA, pB, pC]; refine teA ?_; refine tbA [6] ?_; refine wpAnyT_take (oi := ⟨some 30, .load 3 (.tmp 29), 3, _, _, none⟩) (v := .int .i64 lq) rfl (fun _ _ _ h => h) (by rfl) (by assumption) (fun wS hSw => by (try dsimp only at hSw); go_simp) ?_; simp only [Act.put, pA, pB, pC]; refine teA ?_)
         try (clear M13; refine tbA [13] ?_; refine wpAnyT_take (oi := ⟨some 37, .build 44 #[(0, .tmp 25), (2, .tmp 30), (6, .tmp 33), (3, .const (.string { data := #[112, 97, 116, 104] })), (7, .const (.int .i64 1)), (1, .tmp 36)], 44, _, _, none⟩) (v := .agg #[.int .i64 (1 + (k : Int)), .slice (some ⟨L36, 0, none⟩) 1 1, .int .i64 lq, .string { data := #[112, 97, 116, 104] }, .string { data := #[] }, .bool false, .int .i64 (1 + qw), .int .i64 1]) rfl (fun _ _ _ h => h) (by rfl) (by assumption) (fun wS hSw => by (try dsimp only at hSw); go_simp) ?_; simp only [Act.put, pA, pB, pC]; refine teA ?_)
        rotate_left)
       | (
        refine AllReadyH.cons (o := ⟨some 9, .alloc 44, 0, _, _, none⟩) rfl (fun K hK => ?_) ?_
        focus
         go_simp
         have C1 := (C.push [.int .i64 0, .slice none 0 0, .int .i64 0, .string { data := #[] }, .string { data := #[] }, .bool false, .int .i64 0, .int .i64 0] 44).swap
         have P1 := P.grows ((Below.refl _ wx).alloc (Nat.le_refl _) (.cells #[.int .i64 0, .slice none 0 0, .int .i64 0, .string { data := #[] }, .string { data := #[] }, .bool false, .int .i64 0, .int .i64 0] 44))
         have hzB9 := P.1
         try (have L1 := hLx.later ((Below.refl _ wx).alloc (Nat.le_refl _) (.cells #[.int .i64 0, .slice none 0 0, .int .i64 0, .string { data := #[] }, .string { data := #[] }, .bool false, .int .i64 0, .int .i64 0] 44)); clear hLx; have hLx := L1; clear L1; change Own w4.heap.size (wx.alloc (.cells #[.int .i64 0, .slice none 0 0, .int .i64 0, .string { data := #[] }, .string { data := #[] }, .bool false, .int .i64 0, .int .i64 0] 44)) _ _ at hLx)
         change Has w _ (wx.alloc (.cells #[.int .i64 0, .slice none 0 0, .int .i64 0, .string { data := #[] }, .string { data := #[] }, .bool false, .int .i64 0, .int .i64 0] 44)) at C1
         change Oth D' w4 (wx.alloc (.cells #[.int .i64 0, .slice none 0 0, .int .i64 0, .string { data := #[] }, .string { data := #[] }, .bool false, .int .i64 0, .int .i64 0] 44)) at P1
         generalize wx.heap.size = B9 at *
         generalize wx.alloc (.cells #[.int .i64 0, .slice none 0 0, .int .i64 0, .string { data := #[] }, .string { data := #[] }, .bool false, .int .i64 0, .int .i64 0] 44) = wx at *
         clear hHeld
         refine hK.out _ _ (by first | exact C1.low | exact ⟨(by first | exact C1.fact (.tail _ (.head _)) (i := j) hlq.out.1 | exact C1.fact (.tail _ (.tail _ (.head _))) (i := j) hlq.out.1 | exact C1.fact (.tail _ (.tail _ (.tail _ (.head _)))) (i := j) hlq.out.1), C1.low⟩) (fun hHeld => ?_)
         clear hK K C P
         have C := C1
         have P := P1
         clear C1 P1
         try simp only [pA, pB, pC]
         try (obtain ⟨lq, hlq⟩ := level_at hj4; replace hlq := Lib.hid hlq; refine wpAnyH_more (T := fun w' => w'.cell? ⟨A26, j, none⟩ = some (.int .i64 lq) ∧ Below w.heap.size w w') (fun _ h => h.2) _ _ _ _ ?_; clear hHeld; have hHeld : (fun w' => w'.cell? ⟨A26, j, none⟩ = some (.int .i64 lq) ∧ Below w.heap.size w w') wx := ⟨(by first | exact C.fact (.tail _ (.head _)) (i := j) hlq.out.1 | exact C.fact (.tail _ (.tail _ (.head _))) (i := j) hlq.out.1 | exact C.fact (.tail _ (.tail _ (.tail _ (.head _)))) (i := j) hlq.out.1), C.low⟩; dsimp only at hHeld; refine tbA [5] ?_; refine wpAnyT_take (oi := ⟨some 29, .indexAddr 22 (.tmp 26) (.tmp 28), 0, _, _, none⟩) (v := .pointer (some ⟨A26, j, none⟩)) rfl (fun _ _ _ h => h) (by rfl) (by assumption) (fun wS hSw => by (try dsimp only at hSw); go_simp) ?_; simp only [Act.put, pA, pB, pC]; refine teA ?_; refine tbA [6] ?_; refine wpAnyT_take (oi := ⟨some 30, .load 3 (.tmp 29), 3, _, _, none⟩) (v := .int .i64 lq) rfl (fun _ _ _ h => h) (by rfl) (by assumption) (fun wS hSw => by (try dsimp only at hSw); go_simp) ?_; simp only [Act.put, pA, pB, pC]; refine teA ?_)
         try (clear M13; refine tbA [13] ?_; refine wpAnyT_take (oi := ⟨some 37, .build 44 #[(0, .tmp 25), (2, .tmp 30), (6, .tmp 33), (3, .const (.string { data := #[112, 97, 116, 104] })), (7, .const (.int .i64 1)), (1, .tmp 36)], 44, _, _, none⟩) (v := .agg #[.int .i64 (1 + (k : Int)), .slice (some ⟨L36, 0, none⟩) 1 1, .int .i64 lq, .string { data := #[112, 97, 116, 104] }, .string { data := #[] }, .bool false, .int .i64 (1 + qw), .int .i64 1]) rfl (fun _ _ _ h => h) (by rfl) (by assumption) (fun wS hSw => by (try dsimp only at hSw); go_simp) ?_; simp only [Act.put, pA, pB, pC]; refine teA ?_)
        rotate_left)
       | (
        refine AllReadyH.cons (o := ⟨none, .store 44 (.tmp 9) (.tmp 37), 0, _, _, none⟩) rfl (fun K hK => ?_) ?_
        focus
         have X0 := C.pick2 (p := (B9, [.int .i64 0, .slice none 0 0, .int .i64 0, .string { data := #[] }, .string { data := #[] }, .bool false, .int .i64 0, .int .i64 0])) (by first | exact .tail _ (.head _) | exact .tail _ (.tail _ (.head _)) | exact .tail _ (.tail _ (.tail _ (.head _)))) (.head _) (show B9 ≠ D' by omega)
         refine held_store_has (vs := [.int .i64 (1 + (k : Int)), .slice (some ⟨L36, 0, none⟩) 1 1, .int .i64 lq, .string { data := #[112, 97, 116, 104] }, .string { data := #[] }, .bool false, .int .i64 (1 + qw), .int .i64 1]) rfl rfl rfl rfl rfl X0 rfl (by kernel_rfl) (by simp [Value.oneCell']) ?_
         intro wE XE OE
         have hc26 : wx.cell? ⟨A26, j, none⟩ = some (.int .i64 lq) := (by first | exact C.fact (.tail _ (.head _)) (i := j) hlq.out.1 | exact C.fact (.tail _ (.tail _ (.head _))) (i := j) hlq.out.1 | exact C.fact (.tail _ (.tail _ (.tail _ (.head _)))) (i := j) hlq.out.1)
         have hlt26 : A26 < wx.heap.size := World.block_lt_of_cell? wx _ hc26
         have hne26 : B9 ≠ A26 := (by first | exact C.ne_at 1 2 rfl rfl (by decide) | exact C.ne_at 1 3 rfl rfl (by decide) | exact C.ne_at 2 1 rfl rfl (by decide) | exact C.ne_at 2 3 rfl rfl (by decide) | exact C.ne_at 3 1 rfl rfl (by decide) | exact C.ne_at 3 2 rfl rfl (by decide))
         have hneL : B9 ≠ L36 := (by first | exact C.ne_at 1 2 rfl rfl (by decide) | exact C.ne_at 1 3 rfl rfl (by decide) | exact C.ne_at 2 1 rfl rfl (by decide) | exact C.ne_at 2 3 rfl rfl (by decide) | exact C.ne_at 3 1 rfl rfl (by decide) | exact C.ne_at 3 2 rfl rfl (by decide))
         refine hK.out _ _ ⟨(OE.cell hne26.symm hlt26).trans hc26, XE.low⟩ (fun _ => ?_)
         clear hK K
         try simp only [pA, pB, pC]
         refine wpAnyH_done (by kernel_rfl) ?_ _
         first | go_meet | (go_wp2_with fail; go_meet) | (refine Calm.normal ?_; go_meet)
         exact ⟨B9, L36, _, sx, sy, lq, qw, rfl, XE, P.thenNew hzB9 OE, OE.own1 (Ne.symm hneL) hLx, hsx, hsy, hlq.out.2, ⟨hqw0, hqw1⟩, ht, hzB9, Ne.symm hneL⟩)
   case rest =>
    obtain ⟨B, L, t4, x, y, lv, wt, rfl, C4, O4, hL, hx, hy, hlv, hwt, ht4, hNB, hLB⟩ := hcut
    have hDB : D' < B := by omega
    go_wp2_with fail
    refine (next_any C4.swap HR.out ht4 4 (by decide) (by decide)).mono ?_
    rintro e w5 ⟨q, t5, rfl, hq0, hq1, ht5, C5, O5⟩
    replace O4 := O4.then O5
    replace hL := O5.own hDP hL
    replace C5 := C5.swap
    clear C4 O5 ht4
    go_upto_if 40 with fail
    go_cut [40] (fun _ wx => P9 w D' (.slice a n cap) B (fun u => [.int .i64 (1 + (k : Int)), u, .int .i64 lv, .string { data := #[112, 97, 116, 104] }, .string { data := #[] }, .bool false, .int .i64 (1 + wt), .int .i64 1]) 1 2 w4 wx)
    case first =>
     by_cases hq : q = 0
     ·subst hq
      go_upto_region 10 with fail
      refine plain_Z 14 (fun w' => w'.cell? ⟨B, 1, none⟩ = some (.slice (some ⟨L, 0, none⟩) 1 1)) (by kernel_rfl) ?_
      have X0 := C5.drew
      have O6 : Oth D' w4 w5.drew := O4.grows ((Below.refl _ w5).drew)
      have hL6 := hL.later ((Below.refl _ w5).drew)
      have hHeld : (fun w' => w'.cell? ⟨B, 1, none⟩ = some (.slice (some ⟨L, 0, none⟩) 1 1)) w5.drew := X0.fact (.head _) (i := 1) rfl
      generalize w5.drew = w6 at *
      clear C5 O4 hL
      refine wpAnyZ_take (i := 0) (oi := ⟨some 41, .fieldAddr 44 (.tmp 9) 1, 0, _, _, none⟩) (oz := ⟨none, .store 42 (.tmp 54) (.tmp 53), 0, _, _, none⟩) (v := .pointer (some ⟨B, 1, none⟩)) rfl rfl (by kernel_rfl) (fun _ _ _ h => h) (by rfl) (by assumption) (fun wS hSw => ?_) ?_
      ·(try dsimp only at hSw); go_simp
      simp only [Act.put, pA, pB, pC]
      refine wpAnyZ_take (i := 1) (oi := ⟨some 42, .load 42 (.tmp 41), 42, _, _, none⟩) (oz := ⟨none, .store 42 (.tmp 54) (.tmp 53), 0, _, _, none⟩) (v := (.slice (some ⟨L, 0, none⟩) 1 1)) rfl rfl (by kernel_rfl) (fun _ _ _ h => h) (by rfl) (by assumption) (fun wS hSw => ?_) ?_
      ·(try dsimp only at hSw); go_simp
      simp only [Act.put, pA, pB, pC]
      refine wpAnyZ_take (i := 2) (oi := ⟨some 43, .move (.tmp 3), 59, _, _, none⟩) (oz := ⟨none, .store 42 (.tmp 54) (.tmp 53), 0, _, _, none⟩) (v := .pointer (some ⟨D', 0, none⟩)) rfl rfl (by kernel_rfl) (fun _ _ _ h => h) (by rfl) (by assumption) (fun wS hSw => ?_) ?_
      ·(try dsimp only at hSw); go_simp
      simp only [Act.put, pA, pB, pC]
      refine wpAnyZ_take (i := 6) (oi := ⟨some 47, .move (.tmp 3), 59, _, _, none⟩) (oz := ⟨none, .store 42 (.tmp 54) (.tmp 53), 0, _, _, none⟩) (v := .pointer (some ⟨D', 0, none⟩)) rfl rfl (by kernel_rfl) (fun _ _ _ h => h) (by rfl) (by assumption) (fun wS hSw => ?_) ?_
      ·(try dsimp only at hSw); go_simp
      simp only [Act.put, pA, pB, pC]
      refine wpAnyZ_listed #[true, true, true, false, false, false, true, false, false, false, false, false, false, false, false] (by kernel_rfl) ?_
      refine wpAnyZ_one (i := 3) (o := ⟨some 44, .call { callee := .value (.func 31), args := #[.tmp 43, .const (.int .i64 2)], argTypes := #[59, 3] }, 3, _, _, none⟩) (by kernel_rfl) rfl (fun K hK => ?_)
      go_simp
      go_at_call 31
      refine (next_any X0.swap HR.out ht5 2 (by decide) (by decide)).mono ?_
      rintro e w7 ⟨qx, t6, rfl, hqx0, hqx1, ht6, X1, UO7⟩
      replace X1 := X1.swap
      have O7 := O6.then UO7
      have hL7 := UO7.own hDP hL6
      go_wp2_with fail
      try clear hHeld
      refine hK.out _ _ (X1.fact (.head _) (i := 1) rfl) (fun hHeld => ?_)
      clear hK K
      try simp only [pA, pB, pC]
      refine wpAnyZ_listed #[true, true, true, true, false, false, true, false, false, false, false, false, false, false, false] (by kernel_rfl) ?_
      clear X0 O6 hL6 UO7
      have s1 : IntKind.i64.wrap (10 * qx) = 10 * qx := by rw [IntKind.wrap_i64]; omega
      have s2 : IntKind.i64.wrap (5 + 10 * qx) = 5 + 10 * qx := by rw [IntKind.wrap_i64]; omega
      refine wpAnyZ_take (i := 4) (oi := ⟨some 45, .binOp .mul 3 (.const (.int .i64 10)) (.tmp 44) 3, 3, _, _, none⟩) (oz := ⟨none, .store 42 (.tmp 54) (.tmp 53), 0, _, _, none⟩) (v := .int .i64 (10 * qx)) rfl rfl (by kernel_rfl) (fun _ _ _ h => h) (by rfl) (by assumption) (fun wS hSw => ?_) ?_
      ·(try dsimp only at hSw); go_simp
      simp only [Act.put, pA, pB, pC]
      refine wpAnyZ_take (i := 5) (oi := ⟨some 46, .binOp .add 3 (.const (.int .i64 5)) (.tmp 45) 3, 3, _, _, none⟩) (oz := ⟨none, .store 42 (.tmp 54) (.tmp 53), 0, _, _, none⟩) (v := .int .i64 (5 + 10 * qx)) rfl rfl (by kernel_rfl) (fun _ _ _ h => h) (by rfl) (by assumption) (fun wS hSw => ?_) ?_
      ·(try dsimp only at hSw); go_simp
      simp only [Act.put, pA, pB, pC]
      refine wpAnyZ_listed #[true, true, true, true, true, true, true, false, false, false, false, false, false, false, false] (by kernel_rfl) ?_
      refine wpAnyZ_one (i := 7) (o := ⟨some 48, .call { callee := .value (.func 31), args := #[.tmp 47, .const (.int .i64 2)], argTypes := #[59, 3] }, 3, _, _, none⟩) (by kernel_rfl) rfl (fun K hK => ?_)
      go_simp
      go_at_call 31
      refine (next_any X1.swap HR.out ht6 2 (by decide) (by decide)).mono ?_
      rintro e w8 ⟨qy, t7, rfl, hqy0, hqy1, ht7, X2, UO8⟩
      replace X2 := X2.swap
      have O8 := O7.then UO8
      have hL8 := UO8.own hDP hL7
      go_wp2_with fail
      try clear hHeld
      refine hK.out _ _ (X2.fact (.head _) (i := 1) rfl) (fun hHeld => ?_)
      clear hK K
      try simp only [pA, pB, pC]
      refine wpAnyZ_listed #[true, true, true, true, true, true, true, true, false, false, false, false, false, false, false] (by kernel_rfl) ?_
      clear X1 O7 hL7 UO8
      have s3 : IntKind.i64.wrap (10 * qy) = 10 * qy := by rw [IntKind.wrap_i64]; omega
      have s4 : IntKind.i64.wrap (5 + 10 * qy) = 5 + 10 * qy := by rw [IntKind.wrap_i64]; omega
      refine wpAnyZ_take (i := 8) (oi := ⟨some 49, .binOp .mul 3 (.const (.int .i64 10)) (.tmp 48) 3, 3, _, _, none⟩) (oz := ⟨none, .store 42 (.tmp 54) (.tmp 53), 0, _, _, none⟩) (v := .int .i64 (10 * qy)) rfl rfl (by kernel_rfl) (fun _ _ _ h => h) (by rfl) (by assumption) (fun wS hSw => ?_) ?_
      ·(try dsimp only at hSw); go_simp
      simp only [Act.put, pA, pB, pC]
      refine wpAnyZ_take (i := 9) (oi := ⟨some 50, .binOp .add 3 (.const (.int .i64 5)) (.tmp 49) 3, 3, _, _, none⟩) (oz := ⟨none, .store 42 (.tmp 54) (.tmp 53), 0, _, _, none⟩) (v := .int .i64 (5 + 10 * qy)) rfl rfl (by kernel_rfl) (fun _ _ _ h => h) (by rfl) (by assumption) (fun wS hSw => ?_) ?_
      ·(try dsimp only at hSw); go_simp
      simp only [Act.put, pA, pB, pC]
      refine wpAnyZ_take (i := 10) (oi := ⟨some 51, .build 37 #[(0, .tmp 46), (1, .tmp 50)], 37, _, _, none⟩) (oz := ⟨none, .store 42 (.tmp 54) (.tmp 53), 0, _, _, none⟩) (v := .agg #[.int .i64 (5 + 10 * qx), .int .i64 (5 + 10 * qy)]) rfl rfl (by kernel_rfl) (fun _ _ _ h => h) (by rfl) (by assumption) (fun wS hSw => ?_) ?_
      ·(try dsimp only at hSw); go_simp
      simp only [Act.put, pA, pB, pC]
      refine wpAnyZ_listed #[true, true, true, true, true, true, true, true, true, true, true, false, false, false, false] (by kernel_rfl) ?_
      have hUB : (Value.slice (some ⟨L, 0, none⟩) 1 1).ownBlock ≠ some B := by intro h; cases h; exact hLB rfl
      refine wpAnyZ_one (i := 11) (o := ⟨some 52, .buildSlice 42 1 #[(0, .tmp 51)], 42, _, _, none⟩) (by kernel_rfl) rfl (fun K hK => ?_)
      go_simp
      have Rq : RowP (w8.alloc (.cells #[.int .i64 (5 + 10 * qx), .int .i64 (5 + 10 * qy)] 37)) (.slice (some ⟨w8.heap.size, 0, none⟩) 1 1) [((5 + 10 * qx), (5 + 10 * qy))] := (own_one rfl (Nat.le_refl _) rfl).row
      have Yp := X2.later ((Below.refl _ w8).alloc (Nat.le_refl _) (.cells #[.int .i64 (5 + 10 * qx), .int .i64 (5 + 10 * qy)] 37))
      have Pp := O8.grows ((Below.refl _ w8).alloc (Nat.le_refl _) (.cells #[.int .i64 (5 + 10 * qx), .int .i64 (5 + 10 * qy)] 37))
      have lp := hL8.later ((Below.refl _ w8).alloc (Nat.le_refl _) (.cells #[.int .i64 (5 + 10 * qx), .int .i64 (5 + 10 * qy)] 37))
      have zp : w4.heap.size ≤ (w8.alloc (.cells #[.int .i64 (5 + 10 * qx), .int .i64 (5 + 10 * qy)] 37)).heap.size := Pp.1
      generalize w8.alloc (.cells #[.int .i64 (5 + 10 * qx), .int .i64 (5 + 10 * qy)] 37) = vp at *
      generalize w8.heap.size = Np at *
      try clear hHeld
      refine hK.out _ _ (Yp.fact (.head _) (i := 1) rfl) (fun hHeld => ?_)
      clear hK K
      try simp only [pA, pB, pC]
      refine wpAnyZ_listed #[true, true, true, true, true, true, true, true, true, true, true, true, false, false, false] (by kernel_rfl) ?_
      clear X2 O8 hL8
      refine wpAnyZ_one (i := 12) (o := ⟨some 53, .call { callee := .builtin .append, args := #[.tmp 42, .tmp 52], argTypes := #[42, 42] }, 42, _, _, none⟩) (by kernel_rfl) rfl (fun K hK => ?_)
      refine held_append_pts2 rfl _ _ rfl rfl lp rfl Rq (by simp) zp ?_
      intro yp xp mp gp ep
      have Zp := Yp.grownN (by intro p hp; simp only [List.mem_cons, List.not_mem_nil, or_false] at hp; rcases hp with rfl | rfl; exact hUB; exact fun e => by have := (lp.lt e).1; omega) (fun _ e => Nat.le_trans hw4 (lp.lt e).1) gp
      have Qp := Pp.append (fun _ e => (lp.lt e).1) gp
      have Up : yp.ownBlock ≠ some B := by rcases ep with e | e <;> rw [e]; exact hUB; exact fun e => by cases e; exact absurd (Yp.lt0) (Nat.lt_irrefl _)
      obtain ⟨sap, scp, rfl, -⟩ := mp.row
      skip
      try clear hHeld
      refine hK.out _ _ (Zp.fact (.head _) (i := 1) rfl) (fun hHeld => ?_)
      clear hK K
      try simp only [pA, pB, pC]
      refine wpAnyZ_listed #[true, true, true, true, true, true, true, true, true, true, true, true, true, false, false] (by kernel_rfl) ?_
      clear Yp Pp lp gp ep Rq zp
      refine wpAnyZ_take (i := 13) (oi := ⟨some 54, .fieldAddr 44 (.tmp 9) 1, 0, _, _, none⟩) (oz := ⟨none, .store 42 (.tmp 54) (.tmp 53), 0, _, _, none⟩) (v := .pointer (some ⟨B, 1, none⟩)) rfl rfl (by kernel_rfl) (fun _ _ _ h => h) (by rfl) (by assumption) (fun wS hSw => ?_) ?_
      ·(try dsimp only at hSw); go_simp
      simp only [Act.put, pA, pB, pC]
      refine wpAnyZ_listed #[true, true, true, true, true, true, true, true, true, true, true, true, true, true, false] (by kernel_rfl) ?_
      refine wpAnyZ_step (o := ⟨none, .store 42 (.tmp 54) (.tmp 53), 0, _, _, none⟩) (by kernel_rfl) (by decide) rfl (fun K hK => ?_)
      have k1 := Zp.fact (.head _) (i := 1) rfl
      have f1 := Zp.free (.head _) (i := 1) rfl
      go_simp
      have XE := Zp.set 1 (by simp) (.slice sap 2 scp)
      have OE := Qp.new hNB 1 (.slice sap 2 scp)
      have mE : Own w4.heap.size (World.setCell xp ⟨B, 1, none⟩ (.slice sap 2 scp)) (.slice sap 2 scp) ([(x, y)] ++ [(5 + 10 * qx, 5 + 10 * qy)]) := mp.setB (i := 1) (u := (.slice sap 2 scp)) Up
      have UE : (Value.slice sap 2 scp).ownBlock ≠ some B := Up
      generalize World.setCell xp ⟨B, 1, none⟩ (.slice sap 2 scp) = wE at *
      clear k1 f1 Zp Qp mp Up
      try clear hHeld
      refine hK.out _ _ ?_
      clear hK K
      try simp only [pA, pB, pC]
      refine tlA #[true, true, true, true, true, true, true, true, true, true, true, true, true, true, true] ?_
      have hHeld := True.intro
      refine wpAnyH_done (by kernel_rfl) ?_ _
      refine Calm.normal ?_
      first | go_meet | (go_wp2_with fail; go_meet)
      exact ⟨_, _, _, XE, OE, mE, UE, by simp, (by intro p hp; simp only [List.cons_append, List.nil_append, List.mem_cons, List.not_mem_nil, or_false] at hp; rcases hp with rfl | rfl; exact ⟨hx, hy⟩; exact ⟨by simp only; omega, by simp only; omega⟩), ht7⟩
     ·have bq : (q == 0) = false := by rw [beq_eq_false_iff_ne]; exact hq
      go_wp2_with fail
      go_meet
      exact ⟨_, _, _, C5, O4, hL, (by intro h; cases h; exact hLB rfl), by simp, (by intro p hp; rw [List.mem_singleton] at hp; subst hp; exact ⟨hx, hy⟩), ht5⟩
    case rest =>
     clear C5 O4 hL
     obtain ⟨u, ps, t6, C6, O6, hL6, hUB, hps, hpp, ht6⟩ := hcut
     obtain ⟨ua, uc, rfl, -⟩ := hL6.row
     generalize hnp : ps.length = np at *
     rename World => w6
     go_upto_region 11 with fail
     refine plain_Z 7 (fun w' => w'.cell? ⟨B, 1, none⟩ = some (.slice ua np uc)) (by kernel_rfl) ?_
     have X0 := C6.drew
     have O7 : Oth D' w4 w6.drew := O6.grows ((Below.refl _ w6).drew)
     have hL7 := hL6.later ((Below.refl _ w6).drew)
     have hHeld : (fun w' => w'.cell? ⟨B, 1, none⟩ = some (.slice ua np uc)) w6.drew := X0.fact (.head _) (i := 1) rfl
     generalize w6.drew = w7 at *
     clear C6 O6 hL6
     refine wpAnyZ_take (i := 0) (oi := ⟨some 55, .fieldAddr 44 (.tmp 9) 1, 0, _, _, none⟩) (oz := ⟨none, .store 42 (.tmp 61) (.tmp 60), 0, _, _, none⟩) (v := .pointer (some ⟨B, 1, none⟩)) rfl rfl (by kernel_rfl) (fun _ _ _ h => h) (by rfl) (by assumption) (fun wS hSw => ?_) ?_
     ·(try dsimp only at hSw); go_simp
     simp only [Act.put, pA, pB, pC]
     refine wpAnyZ_take (i := 1) (oi := ⟨some 56, .load 42 (.tmp 55), 42, _, _, none⟩) (oz := ⟨none, .store 42 (.tmp 61) (.tmp 60), 0, _, _, none⟩) (v := .slice ua np uc) rfl rfl (by kernel_rfl) (fun _ _ _ h => h) (by rfl) (by assumption) (fun wS hSw => ?_) ?_
     ·(try dsimp only at hSw); go_simp
     simp only [Act.put, pA, pB, pC]
     refine wpAnyZ_take (i := 2) (oi := ⟨some 57, .move (.tmp 8), 3, _, _, none⟩) (oz := ⟨none, .store 42 (.tmp 61) (.tmp 60), 0, _, _, none⟩) (v := .int .i64 qb) rfl rfl (by kernel_rfl) (fun _ _ _ h => h) (by rfl) (by assumption) (fun wS hSw => ?_) ?_
     ·(try dsimp only at hSw); go_simp
     simp only [Act.put, pA, pB, pC]
     refine wpAnyZ_listed #[true, true, true, false, false, false, false, false] (by kernel_rfl) ?_
     refine wpAnyZ_one (i := 3) (o := ⟨some 58, .call { callee := .value (.func 32), args := #[.tmp 57], argTypes := #[3] }, 37, _, _, none⟩) (by kernel_rfl) rfl (fun K hK => ?_)
     go_simp
     go_at_call 32
     refine (spot_ex qb _ hb0 hb1).mono ?_
     rintro e w8 ⟨sx, sy, hsx, hsy, rfl, g8⟩
     have X1 := X0.later g8
     have O8 := O7.grows g8
     have hL8 := hL7.later g8
     go_wp2_with fail
     try clear hHeld
     refine hK.out _ _ (X1.fact (.head _) (i := 1) rfl) (fun hHeld => ?_)
     clear hK K
     try simp only [pA, pB, pC]
     refine wpAnyZ_listed #[true, true, true, true, false, false, false, false] (by kernel_rfl) ?_
     clear X0 O7 hL7 g8
     refine wpAnyZ_one (i := 4) (o := ⟨some 59, .buildSlice 42 1 #[(0, .tmp 58)], 42, _, _, none⟩) (by kernel_rfl) rfl (fun K hK => ?_)
     go_simp
     have Rq : RowP (w8.alloc (.cells #[.int .i64 sx, .int .i64 sy] 37)) (.slice (some ⟨w8.heap.size, 0, none⟩) 1 1) [(sx, sy)] := (own_one rfl (Nat.le_refl _) rfl).row
     have Yq := X1.later ((Below.refl _ w8).alloc (Nat.le_refl _) (.cells #[.int .i64 sx, .int .i64 sy] 37))
     have Pq := O8.grows ((Below.refl _ w8).alloc (Nat.le_refl _) (.cells #[.int .i64 sx, .int .i64 sy] 37))
     have lq := hL8.later ((Below.refl _ w8).alloc (Nat.le_refl _) (.cells #[.int .i64 sx, .int .i64 sy] 37))
     have zq : w4.heap.size ≤ (w8.alloc (.cells #[.int .i64 sx, .int .i64 sy] 37)).heap.size := Pq.1
     generalize w8.alloc (.cells #[.int .i64 sx, .int .i64 sy] 37) = vq at *
     generalize w8.heap.size = Nq at *
     try clear hHeld
     refine hK.out _ _ (Yq.fact (.head _) (i := 1) rfl) (fun hHeld => ?_)
     clear hK K
     try simp only [pA, pB, pC]
     refine wpAnyZ_listed #[true, true, true, true, true, false, false, false] (by kernel_rfl) ?_
     clear X1 O8 hL8
     refine wpAnyZ_one (i := 5) (o := ⟨some 60, .call { callee := .builtin .append, args := #[.tmp 56, .tmp 59], argTypes := #[42, 42] }, 42, _, _, none⟩) (by kernel_rfl) rfl (fun K hK => ?_)
     refine held_append_pts2 rfl _ _ rfl rfl lq rfl Rq (by rw [hnp]; omega) zq ?_
     intro yq xq mq gq eq
     generalize hqs : ps ++ [(sx, sy)] = qs at *
     have Zq := Yq.grownN (by intro p hp; simp only [List.mem_cons, List.not_mem_nil, or_false] at hp; rcases hp with rfl | rfl; exact hUB; exact fun e => by have := (lq.lt e).1; omega) (fun _ e => Nat.le_trans hw4 (lq.lt e).1) gq
     have Qq := Pq.append (fun _ e => (lq.lt e).1) gq
     have Uq : yq.ownBlock ≠ some B := by rcases eq with e | e <;> rw [e]; exact hUB; exact fun e => by cases e; exact absurd (Yq.lt0) (Nat.lt_irrefl _)
     obtain ⟨saq, scq, rfl, -⟩ := mq.row
     generalize hnq : qs.length = nq at *
     skip
     try clear hHeld
     refine hK.out _ _ (Zq.fact (.head _) (i := 1) rfl) (fun hHeld => ?_)
     clear hK K
     try simp only [pA, pB, pC]
     refine wpAnyZ_listed #[true, true, true, true, true, true, false, false] (by kernel_rfl) ?_
     clear Yq Pq lq gq eq Rq zq
     refine wpAnyZ_take (i := 6) (oi := ⟨some 61, .fieldAddr 44 (.tmp 9) 1, 0, _, _, none⟩) (oz := ⟨none, .store 42 (.tmp 61) (.tmp 60), 0, _, _, none⟩) (v := .pointer (some ⟨B, 1, none⟩)) rfl rfl (by kernel_rfl) (fun _ _ _ h => h) (by rfl) (by assumption) (fun wS hSw => ?_) ?_
     ·(try dsimp only at hSw); go_simp
     simp only [Act.put, pA, pB, pC]
     refine wpAnyZ_listed #[true, true, true, true, true, true, true, false] (by kernel_rfl) ?_
     refine wpAnyZ_step (o := ⟨none, .store 42 (.tmp 61) (.tmp 60), 0, _, _, none⟩) (by kernel_rfl) (by decide) rfl (fun K hK => ?_)
     have k1 := Zq.fact (.head _) (i := 1) rfl
     have f1 := Zq.free (.head _) (i := 1) rfl
     go_simp
     have XE := Zq.set 1 (by simp) (.slice saq nq scq)
     have OE := Qq.new hNB 1 (.slice saq nq scq)
     have mE : Own w4.heap.size (World.setCell xq ⟨B, 1, none⟩ (.slice saq nq scq)) (.slice saq nq scq) qs := mq.setB (i := 1) (u := (.slice saq nq scq)) Uq
     have UE : (Value.slice saq nq scq).ownBlock ≠ some B := Uq
     generalize World.setCell xq ⟨B, 1, none⟩ (.slice saq nq scq) = wE at *
     clear k1 f1 Zq Qq mq Uq
     try clear hHeld
     refine hK.out _ _ ?_
     clear hK K
     try simp only [pA, pB, pC]
     refine tlA #[true, true, true, true, true, true, true, true] ?_
     have hHeld := True.intro
     refine wpAnyH_done (by kernel_rfl) ?_ _
     refine Calm.normal ?_
     go_wp2_with fail
     refine (next_any XE.swap HR.out ht6 3 (by decide) (by decide)).mono ?_
     rintro e w9 ⟨q3, t7, rfl, h30, h31, ht7, C7, O7⟩
     replace C7 := C7.swap
     have O8 := OE.then O7
     have m8 := O7.own hDP mE
     clear XE OE mE O7
     have k5 := C7.fact (.head _) (i := 5) rfl
     have f5 := C7.free (.head _) (i := 5) rfl
     obtain ⟨st, hst⟩ : ∃ st, (q3 == 0) = st := ⟨_, rfl⟩
     have C8 : Has w [(B, [.int .i64 (1 + (k : Int)), .slice saq nq scq, .int .i64 lv, .string { data := #[112, 97, 116, 104] }, .string { data := #[] }, .bool st, .int .i64 (1 + wt), .int .i64 1]), (D', [.slice a n cap, .int .i64 t7])] (w9.setCell ⟨B, 5, none⟩ (.bool st)) := C7.set 5 (by simp) (.bool st)
     have O9 := O8.new hNB 5 (.bool st)
     have m9 := m8.setB (i := 5) (u := .bool st) UE
     go_upto_region 13 with fail
     generalize w9.setCell ⟨B, 5, none⟩ (.bool st) = w10 at *
     clear C7 O8 m8 k5 f5
     obtain ⟨d0, d1, d2, d3, d4, d5, d6, d7⟩ := C8.wy
     have hOW := hO1.out.oth (by omega) O9
     have C9 := C8.push [.int .i64 (1 + (k : Int)), .slice saq nq scq, .int .i64 lv, .string { data := #[112, 97, 116, 104] }, .string { data := #[] }, .bool st, .int .i64 (1 + wt), .int .i64 1] 44
     have hO10 := hOW.later ((Below.refl _ w10).alloc (Nat.le_refl _) (.cells #[.int .i64 (1 + (k : Int)), .slice saq nq scq, .int .i64 lv, .string { data := #[112, 97, 116, 104] }, .string { data := #[] }, .bool st, .int .i64 (1 + wt), .int .i64 1] 44))
     have m10 := (m9.base (show D' + 1 ≤ w4.heap.size by omega)).later ((Below.refl _ w10).alloc (Nat.le_refl _) (.cells #[.int .i64 (1 + (k : Int)), .slice saq nq scq, .int .i64 lv, .string { data := #[112, 97, 116, 104] }, .string { data := #[] }, .bool st, .int .i64 (1 + wt), .int .i64 1] 44))
     have hsz : D' + 1 ≤ (w10.alloc (.cells #[.int .i64 (1 + (k : Int)), .slice saq nq scq, .int .i64 lv, .string { data := #[112, 97, 116, 104] }, .string { data := #[] }, .bool st, .int .i64 (1 + wt), .int .i64 1] 44)).heap.size := by have := O9.1; rw [size_alloc]; omega
     change Has w _ (w10.alloc (.cells #[.int .i64 (1 + (k : Int)), .slice saq nq scq, .int .i64 lv, .string { data := #[112, 97, 116, 104] }, .string { data := #[] }, .bool st, .int .i64 (1 + wt), .int .i64 1] 44)) at C9
     have c9 := C9.wy
     clear C8 hOW m9
     go_wp2_with (at_builtin; refine wpList_append_way (e := ⟨1 + (k : Int), qs, lv, { data := #[112, 97, 116, 104] }, { data := #[] }, st, 1 + wt, 1⟩) rfl _ _ rfl rfl hO10 rfl m10 c9 (by omega) hsz ?_)
     intro u5 w11 hO11 hG
     have C10 := C9.tail.tail.grownN (by intro p hp; rw [List.mem_singleton] at hp; subst hp; exact fun e => by have := (hO10.lt e).1; simp only at this; omega) (fun _ e => by have := (hO10.lt e).1; omega) hG
     clear C9 hO10 m10 hG c9 d0 d1 d2 d3 d4 d5 d6 d7
     have HN := Lib.hid (HW.out.snoc (t := ⟨1 + (k : Int), qs, lv, { data := #[112, 97, 116, 104] }, { data := #[] }, st, 1 + wt, 1⟩) (by omega) (by simp only; omega) ⟨hlv, ⟨by simp only; omega, by simp only; omega⟩, by simp only [← hqs, List.length_append, List.length_singleton]; omega, by
      simp only [← hqs]
      intro p hp
      rcases List.mem_append.1 hp with hp | hp
      ·exact hpp p hp
      ·rw [List.mem_singleton] at hp; subst hp; exact ⟨hsx, hsy⟩⟩)
     go_wp2_with fail
     go_roundw
     case rel => exact ⟨k + 1, t7, ws ++ [_], by omega, by go_num, by simp [hlen], HN, ht7, C10, hO11⟩
     case measure => simp [RowKit.intOf]; omega
  ·obtain rfl : k = M := by omega
   have b1 : decide ((k : Int) < k) = false := decide_eq_false (by omega)
   have hR := hO.row
   have hl := hI.low
   go_wp2_with fail
   go_ret
   exact ⟨_, ws, rfl, hR, HW.out, hl⟩

end Go.Proofs.YtoaldbjcpfkcjaaGreat
