/- The law of RingArea, with its words. -/
import Derived.Test.YtmldgjhecoeldaaLMm
namespace Go.Proofs.Ytmldgjhecoeldaa
open Go.RowKit Go.Lib

theorem sumT_abs {f : Nat → Int} : ∀ {n : Nat}, (∀ k, k < n → -1100 ≤ f k ∧ f k ≤ 1100) → -(1100 * (n : Int)) ≤ sumT f n ∧ sumT f n ≤ 1100 * (n : Int) := by
  intro n
  induction n with
  | zero => intro _; simp [sumT]
  | succ n ih =>
    intro h
    have h1 := ih fun k hk => h k (by omega)
    have h2 := h n (by omega)
    rw [sumT]
    omega
theorem Bdd.mono {B C : Int} {r : List (Int × Int)} (h : Bdd B r) (hBC : B ≤ C) : Bdd C r := fun k hk => by have := h k hk; omega
theorem area_abs {r : List (Int × Int)} (h : Bdd 23 r) : -(1100 * (r.length : Int)) ≤ area (pt r) r.length ∧ area (pt r) r.length ≤ 1100 * (r.length : Int) := by
  unfold area
  refine sumT_abs fun k hk => ?_
  have h1 := h k hk
  have h2 := h _ (nx_lt hk)
  have m1 := mul_abs h1.1 h2.2 (by omega)
  have m2 := mul_abs h1.2 h2.1 (by omega)
  unfold cx
  omega
theorem bdd_turned {B : Int} {r : List (Int × Int)} (h : Bdd B r) {k : Nat} (hk : k ≤ r.length) : Bdd B (r.drop k ++ r.take k) := by
  intro i hi
  rw [len_turned hk] at hi
  rw [pt_turned hk hi, rtk_at hk hi]
  split <;> exact h _ (by omega)
theorem bdd_back {B : Int} {r : List (Int × Int)} (h : Bdd B r) : Bdd B r.reverse := by
  intro i hi
  rw [List.length_reverse] at hi
  rw [pt_back hi]
  exact h _ (by omega)
theorem pt_mapA {f : Int × Int → Int × Int} {l : List (Int × Int)} {k : Nat} (h : k < l.length) : pt (l.map f) k = f (pt l k) := by
  have h1 := at_pt h
  have h2 : (l.map f)[k]? = some (f (pt l k)) := by rw [List.getElem?_map, h1]; rfl
  exact pt_of (x := (f (pt l k)).1) (y := (f (pt l k)).2) h2
theorem area_law {r : List (Int × Int)} (h : MadeR r) : ∃ S, areaP r = S ∧ 0 < S ∧ S ≤ 20000 ∧ (∀ k, k ≤ r.length → areaP (r.drop k ++ r.take k) = S) ∧ areaP r.reverse = -S ∧
    ∀ u v, (-1000 < u ∧ u < 1000) → (-1000 < v ∧ v < 1000) → areaP (r.map (tv u v)) = S := by
  obtain ⟨l3, l10, -⟩ := h.facts
  obtain ⟨m, t, X, L, H, hM⟩ := h.m
  have hb := hM.bdd
  have e := area_plain (hb.mono (by omega)) (by omega)
  refine ⟨_, rfl, ?_, ?_, fun k hk => ?_, ?_, fun u v hu hv => ?_⟩
  · rw [e, hM.area]; exact hM.M.area_pos
  · rw [e]; have := (area_abs hb).2; omega
  · rw [e, area_plain ((bdd_turned hb hk).mono (by omega)) (by rw [len_turned hk]; omega), len_turned hk, area_congr (fun i hi => pt_turned hk hi), area_rtk]
  · rw [e, area_plain ((bdd_back hb).mono (by omega)) (by rw [List.length_reverse]; omega), List.length_reverse, area_congr (fun i hi => pt_back hi), area_bk]
  · have hbm : Bdd 2000 (r.map (tv u v)) := by
      intro k hk
      rw [List.length_map] at hk
      rw [pt_mapA hk]
      have := hb k hk
      unfold tv
      dsimp only
      omega
    rw [e, area_plain hbm (by rw [List.length_map]; omega), List.length_map, area_congr (fun i hi => pt_mapA hi)]
    exact area_tv u v
theorem inside_law {r : List (Int × Int)} (h : MadeR r) {x y : Int} (hx : -30 ≤ x ∧ x ≤ 30) (hy : -30 ≤ y ∧ y ≤ 30) :
    ((insP r (x, y) = 1 ∧ sumT (rayK r (x, y)) r.length = -1) ∨ (insP r (x, y) = -1 ∧ sumT (rayK r (x, y)) r.length = 0) ∨ insP r (x, y) = 0) ∧
    (∀ k, k ≤ r.length → insP (r.drop k ++ r.take k) (x, y) = insP r (x, y)) ∧ insP r.reverse (x, y) = insP r (x, y) := by
  obtain ⟨m, t, X, L, H, hM⟩ := h.m
  have hp : Inn (x, y) := in_of (B := 30) (by omega) ⟨hx, hy⟩
  refine ⟨?_, fun k hk => inside_turned hk hM.ok hp, inside_back hM.ok hp⟩
  have e1 : insP r (x, y) = insV r (x, y) := by unfold insP; rw [hM.ok]; simp
  rw [e1, insV_in hM.all hp, rayK_rays hM.all hp]
  by_cases c : Off (pt r) r.length (x, y)
  · rw [if_pos c]
    rcases hM.rays c with e | e
    · rw [if_pos e]; exact .inr (.inl ⟨rfl, e⟩)
    · rw [if_neg (by omega)]; exact .inl ⟨rfl, e⟩
  · rw [if_neg c]; exact .inr (.inr rfl)
theorem held_append2 {o : Oper} {y : Nat → Option Bool} {a : Act} {w : World} {K : Act → World → Prop} {Q : Exit → Act → World → Prop} {R : Prop} (hw : Region.wanted o y = true) (s x : Operand)
    (ho : o.op = .call { callee := .builtin .append, args := #[s, x], argTypes := #[25, 25] }) {b : Nat} {v vx : Value} {ps qs : List (Int × Int)} (hs : a.eval s = v) (h : Own b w v ps)
    (hx : a.eval x = vx) (hr : RowP w vx qs) (hn : ps.length + qs.length ≤ 100000) (hb : b ≤ w.heap.size)
    (hK : ∀ v' w', Own b w' v' (ps ++ qs) → w.grownBy w' v.ownBlock → (v'.ownBlock = v.ownBlock ∨ v'.ownBlock = some w.heap.size) → K (a.put o.dst v') w') : if Region.wanted o y = true then Oper.wp Try.prog o a w K Q else R := by
  rw [if_pos hw]
  obtain ⟨v', w', e1, e2, e3, e4⟩ := run_append_own2 o.type h hr hn hb
  unfold Oper.wp execOp
  simp only [ho, resolve, invoke, builtin, Sem.run_bind, Sem.run_pure, Result.andThen_ok, List.map_toArray, List.map_cons, List.map_nil, hs, hx, e1]
  exact hK v' w' e2 e3 e4
theorem RowP.drop {w : World} {b o n c : Nat} {ps : List (Int × Int)} (h : RowP w (.slice (some ⟨b, o, none⟩) n c) ps) (i : Nat) : RowP w (.slice (some ⟨b, o + i * 2, none⟩) (n - i) (c - i)) (ps.drop i) := by
  have h0 := h
  obtain ⟨a', cap, e, h2, h3, h4⟩ := h
  simp only [Value.slice.injEq] at e
  obtain ⟨rfl, rfl, rfl⟩ := e
  refine ⟨_, _, by rw [List.length_drop], by rw [List.length_drop]; omega, by omega, .inr ⟨b, o + i * 2, rfl, fun j p hp => ?_⟩⟩
  rw [List.getElem?_drop] at hp
  obtain ⟨x, y⟩ := p
  obtain ⟨c0, c1⟩ := h0.cells hp
  rw [show o + i * 2 + j * 2 = o + (i + j) * 2 by omega]
  exact ⟨c0, c1⟩
set_option linter.unusedSimpArgs false in
set_option linter.unusedVariables false in
set_option maxRecDepth 100000 in
set_option maxHeartbeats 16000000 in
theorem areas_any (v : Value) (xs : List Int) (n x2 y2 x3 y3 : Int) (w : World) (R : RowN w v xs) (lo : 0 ≤ n) (hi : n ≤ 255) (bx2 : (-9223372036854775808 ≤ x2 ∧ x2 ≤ 9223372036854775807)) (by2 : (-9223372036854775808 ≤ y2 ∧ y2 ≤ 9223372036854775807)) (bx3 : (-9223372036854775808 ≤ x3 ∧ x3 ≤ 9223372036854775807)) (by3 : (-9223372036854775808 ≤ y3 ∧ y3 ≤ 9223372036854775807)) :
    Calls Try.prog 7 #[v, .int .u8 n, .agg #[.int .i64 x2, .int .i64 y2], .agg #[.int .i64 x3, .int .i64 y3]] w fun e w' => e = .returned (.bool true) ∧ Below w.heap.size w w' := by
  have HRN := Lib.hid R
  clear R
  have D0 := has2 (w := w) [.int .i64 x2, .int .i64 y2] [.int .i64 x3, .int .i64 y3] 24 24
  change Has w _ ((w.alloc (.cells #[.int .i64 x2, .int .i64 y2] 24)).alloc (.cells #[.int .i64 x3, .int .i64 y3] 24)) at D0
  go_enter Try.func7, Try.ntmps7
  go_wp2_with fail
  generalize (w.alloc (.cells #[.int .i64 x2, .int .i64 y2] 24)).alloc (.cells #[.int .i64 x3, .int .i64 y3] 24) = w0 at *
  obtain ⟨B, hB⟩ : ∃ B, w.heap.size = B := ⟨_, rfl⟩
  obtain ⟨P, hP⟩ : ∃ P, B + 1 = P := ⟨_, rfl⟩
  rw [hB, hP] at D0
  simp only [hB]
  simp only [hP]
  replace D0 := D0.swap
  refine (Has.call D0 (sane_any w0)).mono ?_
  rintro e w1 ⟨rfl, D1⟩
  clear D0
  go_wp2_with fail
  refine (made_ring v xs w1 (HRN.out.later D1.low)).mono ?_
  rintro e w2 ⟨s0, r, rfl, hO, hM, g2⟩
  have D2 := D1.later g2
  have R0 := hO.row
  obtain ⟨l3, l10, -⟩ := hM.facts
  have HM := Lib.hid hM
  have OR := hO
  have hP1 : P < w1.heap.size := D1.lt _ (.head _)
  clear hM hO D1 g2
  obtain ⟨a0, c0, rfl⟩ := row_form R0
  obtain ⟨b, o, rfl, -⟩ := R0.spot (by omega)
  obtain ⟨-, hc1, hc2⟩ := R0.len
  obtain ⟨i, hrem, hiN⟩ := idx_of n r.length lo (by omega)
  have hdl : ([] : List (Int × Int)).length + (r.drop i).length ≤ 100000 := by rw [List.length_drop]; simp; omega
  have hdt : (r.drop i).length + (r.take i).length ≤ 100000 := by rw [List.length_drop, List.length_take]; omega
  have hik : i ≤ r.length := by omega
  have HIK := Lib.hid hik
  have RT0 := R0.take i hik
  have RD0 := R0.drop i
  obtain ⟨N, hN⟩ : ∃ N, r.length = N := ⟨_, rfl⟩
  rw [hN] at R0 OR RD0 hrem hiN l3 l10 hc1 ⊢
  have HN := Lib.hid hN
  clear hN hik
  have wn : IntKind.i64.wrap n = n := IntWalk.i64_in _ (by omega)
  have bN : ¬ (N : Int) = 0 := by omega
  have bN' : ¬ N = 0 := by omega
  have bi0 : (0 : Int) ≤ i := by omega
  have biN : (i : Int) < N := by omega
  have biN' : (i : Int) ≤ N := by omega
  have bNc : (N : Int) ≤ c0 := by omega
  have bic : (i : Int) ≤ c0 := by omega
  have bic2 : i ≤ c0 := by omega
  have biN2 : i ≤ N := by omega
  go_upto_region 4 with fail
  have Dd := D2.drew
  replace R0 := R0.later ((Below.refl _ w2).drew)
  replace OR := OR.later ((Below.refl _ w2).drew)
  replace RT0 := RT0.later ((Below.refl _ w2).drew)
  replace RD0 := RD0.later ((Below.refl _ w2).drew)
  refine wp_region_held_drew (S := fun _ => True) (by kernel_rfl) trivial (fun hHeld => ?_)
  clear D2
  generalize w2.drew = w3 at *
  refine wpAnyT_begin [1, 2, 5, 6] (by kernel_rfl) (by kernel_rfl) ?_
  refine wpAnyT_take (oi := ⟨some 30, Op.move (Operand.tmp 10), 25, _, _, none⟩) (v := .slice (some ⟨b, o, none⟩) N c0) rfl (fun _ _ _ h => h) (by rfl) (by assumption) (fun wS hSw => ?_) ?_
  · (try dsimp only at hSw); go_simp
  simp only [Act.put, List.setIfInBounds_toArray, List.set_cons_zero, List.set_cons_succ]
  refine wpAnyT_take (oi := ⟨some 31, Op.move (Operand.tmp 11), 3, _, _, none⟩) (v := .int .i64 i) rfl (fun _ _ _ h => h) (by rfl) (by assumption) (fun wS hSw => ?_) ?_
  · (try dsimp only at hSw); go_simp
  simp only [Act.put, List.setIfInBounds_toArray, List.set_cons_zero, List.set_cons_succ]
  refine wpAnyT_take (oi := ⟨some 34, Op.move (Operand.tmp 10), 25, _, _, none⟩) (v := .slice (some ⟨b, o, none⟩) N c0) rfl (fun _ _ _ h => h) (by rfl) (by assumption) (fun wS hSw => ?_) ?_
  · (try dsimp only at hSw); go_simp
  simp only [Act.put, List.setIfInBounds_toArray, List.set_cons_zero, List.set_cons_succ]
  refine wpAnyT_take (oi := ⟨some 35, Op.move (Operand.tmp 11), 3, _, _, none⟩) (v := .int .i64 i) rfl (fun _ _ _ h => h) (by rfl) (by assumption) (fun wS hSw => ?_) ?_
  · (try dsimp only at hSw); go_simp
  simp only [Act.put, List.setIfInBounds_toArray, List.set_cons_zero, List.set_cons_succ]
  refine wpAnyT_end ?_
  refine wpAnyH_listed #[false, true, true, false, false, true, true, false, false, false] (by kernel_rfl) ?_
  refine wpAnyT_begin [3, 7] (by kernel_rfl) (by kernel_rfl) ?_
  refine wpAnyT_take (oi := ⟨some 32, Op.slice 25 (Operand.tmp 30) (some (Operand.tmp 31)) none none, 25, _, _, none⟩) (v := .slice (some ⟨b, o + i * 2, none⟩) (N - i) (c0 - i)) rfl (fun _ _ _ h => h) (by rfl) (by assumption) (fun wS hSw => ?_) ?_
  · (try dsimp only at hSw); go_simp; intro h; exfalso; omega
  simp only [Act.put, List.setIfInBounds_toArray, List.set_cons_zero, List.set_cons_succ]
  refine wpAnyT_take (oi := ⟨some 36, Op.slice 25 (Operand.tmp 34) none (some (Operand.tmp 35)) none, 25, _, _, none⟩) (v := .slice (some ⟨b, o, none⟩) i c0) rfl (fun _ _ _ h => h) (by rfl) (by assumption) (fun wS hSw => ?_) ?_
  · (try dsimp only at hSw); go_simp
  simp only [Act.put, List.setIfInBounds_toArray, List.set_cons_zero, List.set_cons_succ]
  refine wpAnyT_end ?_
  refine wpAnyH_listed #[false, true, true, true, false, true, true, true, false, false] (by kernel_rfl) ?_
  refine wpAnyH_ready (rs := [0]) (by kernel_rfl) (by simp) ?_
  refine AllReadyH.cons (o := ⟨some 29, Op.buildSlice 25 0 #[], 25, _, _, none⟩) rfl (fun K hK => ?_) AllReadyH.nil
  have gE : Grows w3 (w3.alloc (.cells #[] 24)) := (Below.refl _ w3).alloc (Nat.le_refl _) _
  have hE := Own.empty (w := w3) w3.heap.size rfl
  have RDE := RD0.later gE
  go_simp
  clear hHeld
  refine hK.out _ _ (trivial) (fun hHeld => ?_)
  clear hK K
  try simp only [List.setIfInBounds_toArray, List.set_cons_zero, List.set_cons_succ]
  refine wpAnyH_listed #[true, true, true, true, false, true, true, true, false, false] (by kernel_rfl) ?_
  refine wpAnyH_ready (rs := [4]) (by kernel_rfl) (by simp) ?_
  refine AllReadyH.cons (o := ⟨some 33, Op.call { callee := Callee.builtin Builtin.append, args := #[Operand.tmp 29, Operand.tmp 32], argTypes := #[25, 25] }, 25, _, _, none⟩) rfl (fun K hK => ?_) AllReadyH.nil
  refine held_append_pts rfl _ _ rfl rfl hE rfl RDE hdl gE.size ?_
  intro u5 w5 O5 G5
  simp only [Act.put, List.setIfInBounds_toArray, List.set_cons_zero, List.set_cons_succ]
  clear hHeld
  refine hK.out _ _ (trivial) (fun hHeld => ?_)
  clear hK K
  try simp only [List.setIfInBounds_toArray, List.set_cons_zero, List.set_cons_succ]
  refine wpAnyH_listed #[true, true, true, true, true, true, true, true, false, false] (by kernel_rfl) ?_
  have G5' := grow_append gE hE (Nat.le_refl _) G5
  have RTE := RT0.later G5'
  rw [List.nil_append] at O5
  clear hE RDE gE G5
  refine wpAnyH_ready (rs := [8]) (by kernel_rfl) (by simp) ?_
  refine AllReadyH.cons (o := ⟨some 37, Op.call { callee := Callee.builtin Builtin.append, args := #[Operand.tmp 33, Operand.tmp 36], argTypes := #[25, 25] }, 25, _, _, none⟩) rfl (fun K hK => ?_) AllReadyH.nil
  refine held_append_pts rfl _ _ rfl rfl O5 rfl RTE hdt G5'.size ?_
  intro u6 w6 O6 G6
  simp only [Act.put, List.setIfInBounds_toArray, List.set_cons_zero, List.set_cons_succ]
  clear hHeld
  refine hK.out _ _ (trivial) (fun hHeld => ?_)
  clear hK K
  try simp only [List.setIfInBounds_toArray, List.set_cons_zero, List.set_cons_succ]
  refine wpAnyH_listed #[true, true, true, true, true, true, true, true, true, false] (by kernel_rfl) ?_
  have G6' := grow_append G5' O5 (Nat.le_refl _) G6
  refine wpAnyT_begin [9] (by kernel_rfl) (by kernel_rfl) ?_
  refine wpAnyT_take (oi := ⟨some 12, Op.assign (Operand.tmp 37), 25, _, _, none⟩) (v := u6) rfl (fun _ _ _ h => h) (by rfl) (by assumption) (fun wS hSw => ?_) ?_
  · (try dsimp only at hSw); go_simp
  simp only [Act.put, List.setIfInBounds_toArray, List.set_cons_zero, List.set_cons_succ]
  refine wpAnyT_end ?_
  refine wpAnyH_listed #[true, true, true, true, true, true, true, true, true, true] (by kernel_rfl) ?_
  refine wpAnyH_done (by kernel_rfl) ?_ _
  clear hHeld
  replace R0 := R0.later G6'
  replace OR := OR.later G6'
  have D := Dd.later G6'
  have RTn := O6.row
  have hP3 : P < w3.heap.size := Dd.lt _ (.head _)
  have hP6 : P < w6.heap.size := D.lt _ (.head _)
  obtain ⟨Tn, hTn⟩ : ∃ l, r.drop i ++ r.take i = l := ⟨_, rfl⟩
  have HTn := Lib.hid hTn
  have OT := O6
  rw [hTn] at RTn OT
  obtain ⟨aT, cT, rfl⟩ := row_form RTn
  clear hTn O6 O5 RTE G5' G6 G6' RD0 RT0 Dd hrem wn bN bN' bi0 biN biN' bic bic2 biN2 hdl hdt hiN
  obtain ⟨ux, hux⟩ : ∃ u, x2.tmod 1000 = u := ⟨_, rfl⟩
  obtain ⟨uy, huy⟩ : ∃ u, y2.tmod 1000 = u := ⟨_, rfl⟩
  have bux : -1000 < ux ∧ ux < 1000 := by rw [← hux]; exact tmod_abs x2 1000 (by omega)
  have buy : -1000 < uy ∧ uy < 1000 := by rw [← huy]; exact tmod_abs y2 1000 (by omega)
  have HB := Lib.hid HM.out.bdd
  have hO0 := Own.nil w6.heap.size w6
  have hI0 : Has w6 [] w6 := Has.nil (Below.refl _ _)
  go_wp2_with fail
  go_loopw [13, 14, 40] (fun bk mv i wr => ∃ k : Nat, k ≤ N ∧ i = .int .i64 k ∧ Own w6.heap.size wr bk (r.reverse.take k) ∧ Own w6.heap.size wr mv ((r.map (tv ux uy)).take k) ∧ Apart bk mv ∧ Has w6 [] wr) (fun _ _ i _ => N - (RowKit.intOf i).toNat)
  case atStart => exact ⟨0, Nat.zero_le _, rfl, hO0, hO0, fun k e => (by cases e), hI0⟩
  case round =>
    clear hO0 hI0
    obtain ⟨k, hk, rfl, OB, OM, hA, hI⟩ := hrel
    by_cases hlt : k < N
    · obtain ⟨x1, y1, hp⟩ := some_pt (ps := r) (k := k) (by rw [HN.out]; exact hlt)
      obtain ⟨j, hj⟩ : ∃ j, N - 1 - k = j := ⟨_, rfl⟩
      obtain ⟨x4, y4, hp4⟩ := some_pt (ps := r) (k := j) (by rw [HN.out]; omega)
      have hb1 := HB.out k (by rw [HN.out]; exact hlt)
      rw [pt_of hp] at hb1
      dsimp only at hb1
      have hnb := Lib.hid (show r.reverse.take k ++ [(x4, y4)] = r.reverse.take (k + 1) by rw [rev_next (by rw [HN.out]; exact hlt), HN.out, hj, pt_of hp4])
      have hnm := Lib.hid (show (r.map (tv ux uy)).take k ++ [(x1 + ux, y1 + uy)] = (r.map (tv ux uy)).take (k + 1) from map_next (f := tv ux uy) hp)
      have hlb : (r.reverse.take k).length + [(x4, y4)].length ≤ 100000 := by rw [List.length_take]; simp; omega
      have hlm : ((r.map (tv ux uy)).take k).length + [(x1 + ux, y1 + uy)].length ≤ 100000 := by rw [List.length_take]; simp; omega
      obtain ⟨q0, q1⟩ := (R0.later hI.low).cells hp4
      have b2 : (k : Int) < N := by omega
      have b3 : (0 : Int) ≤ k := by omega
      have b4 : (j : Int) < N := by omega
      have b5 : (0 : Int) ≤ j := by omega
      have w1' : IntKind.i64.wrap ((N : Int) - 1) = (N : Int) - 1 := IntWalk.i64_in _ (by omega)
      have w2' : IntKind.i64.wrap ((N : Int) - 1 - k) = (j : Int) := by rw [IntWalk.i64_in _ (by omega)]; omega
      have ks : IntKind.i64.wrap ((k : Int) + 1) = ((k + 1 : Nat) : Int) := by rw [IntWalk.i64_in _ (by omega)]; rfl
      obtain ⟨C7, R7⟩ := one_row hI rfl [(x4, y4)] (by simp)
      have g7 : Grows wr (wr.alloc (.cells (flat [(x4, y4)]).toArray 24)) := (Below.refl _ wr).alloc (Nat.le_refl _) _
      have L7 := OB.later g7
      have H7 := OM.later g7
      change RowP (wr.alloc (.cells #[.int .i64 x4, .int .i64 y4] 24)) _ _ at R7
      change Own _ (wr.alloc (.cells #[.int .i64 x4, .int .i64 y4] 24)) _ _ at L7
      change Own _ (wr.alloc (.cells #[.int .i64 x4, .int .i64 y4] 24)) _ _ at H7
      change Has w6 _ (wr.alloc (.cells #[.int .i64 x4, .int .i64 y4] 24)) at C7
      have hD7 := C7.low.size
      clear g7 OB OM hI hj
      go_wp2_with (at_builtin; refine wpList_append2 rfl _ _ rfl rfl L7 rfl R7 hlb hD7 ?_)
      intro u8 w8 L8 G8 E8
      have I8 : Has w6 [] w8 := Has.nil (grow_append C7.low L7 (Nat.le_refl _) G8)
      have H8 := hA.keep H7 G8
      have A8 := hA.grown H7 (by first | exact E8 | (rw [size_alloc]; exact E8))
      rw [hnb.out] at L8
      clear C7 R7 L7 H7 hD7 G8 E8 hA q0 q1 w1' w2' b4 b5 hnb hlb
      go_upto_region 10 with fail
      obtain ⟨mx, hmx⟩ : ∃ m, x1 + ux = m := ⟨_, rfl⟩
      obtain ⟨my, hmy⟩ : ∃ m, y1 + uy = m := ⟨_, rfl⟩
      have wmx : IntKind.i64.wrap mx = mx := IntWalk.i64_in _ (by omega)
      have wmy : IntKind.i64.wrap my = my := IntWalk.i64_in _ (by omega)
      rw [hmx, hmy] at hnm hlm
      have HS := Lib.hid (show ∀ w', Has w6 [] w' → w'.cell? ⟨b, o + k * 2, none⟩ = some (.int .i64 x1) ∧ w'.cell? ⟨b, o + k * 2 + 1, none⟩ = some (.int .i64 y1) ∧ w'.cell? ⟨B, 0, none⟩ = some (.int .i64 x2) ∧ w'.cell? ⟨B, 1, none⟩ = some (.int .i64 y2) from fun w' h => ⟨((R0.later h.low).cells hp).1, ((R0.later h.low).cells hp).2, (D.later h.low).fact (.tail _ (.head _)) (i := 0) rfl, (D.later h.low).fact (.tail _ (.head _)) (i := 1) rfl⟩)
      have Cd := I8.drew
      have LBd := L8.later ((Below.refl _ w8).drew)
      have HMd := H8.later ((Below.refl _ w8).drew)
      refine wp_region_held_drew (S := fun w' => w'.cell? ⟨b, o + k * 2, none⟩ = some (.int .i64 x1) ∧ w'.cell? ⟨b, o + k * 2 + 1, none⟩ = some (.int .i64 y1) ∧ w'.cell? ⟨B, 0, none⟩ = some (.int .i64 x2) ∧ w'.cell? ⟨B, 1, none⟩ = some (.int .i64 y2)) (by kernel_rfl) (HS.out _ Cd) (fun hHeld => ?_)
      generalize w8.drew = w9 at *
      clear I8 L8 H8 hp
      refine wpAnyT_begin [0, 1, 2, 6, 7, 10, 11, 15, 16] (by kernel_rfl) (by kernel_rfl) ?_
      refine wpAnyT_take (oi := ⟨some 54, Op.move (Operand.tmp 14), 25, _, _, none⟩) (v := u14) rfl (fun _ _ _ h => h) (by rfl) (by assumption) (fun wS hSw => ?_) ?_
      · (try dsimp only at hSw); go_simp
      simp only [Act.put, List.setIfInBounds_toArray, List.set_cons_zero, List.set_cons_succ]
      refine wpAnyT_take (oi := ⟨some 55, Op.move (Operand.tmp 10), 25, _, _, none⟩) (v := .slice (some ⟨b, o, none⟩) N c0) rfl (fun _ _ _ h => h) (by rfl) (by assumption) (fun wS hSw => ?_) ?_
      · (try dsimp only at hSw); go_simp
      simp only [Act.put, List.setIfInBounds_toArray, List.set_cons_zero, List.set_cons_succ]
      refine wpAnyT_take (oi := ⟨some 56, Op.move (Operand.tmp 15), 3, _, _, none⟩) (v := .int .i64 k) rfl (fun _ _ _ h => h) (by rfl) (by assumption) (fun wS hSw => ?_) ?_
      · (try dsimp only at hSw); go_simp
      simp only [Act.put, List.setIfInBounds_toArray, List.set_cons_zero, List.set_cons_succ]
      refine wpAnyT_take (oi := ⟨some 60, Op.fieldAddr 24 (Operand.tmp 6) 0, 0, _, _, none⟩) (v := .pointer (some ⟨B, 0, none⟩)) rfl (fun _ _ _ h => h) (by rfl) (by assumption) (fun wS hSw => ?_) ?_
      · (try dsimp only at hSw); go_simp
      simp only [Act.put, List.setIfInBounds_toArray, List.set_cons_zero, List.set_cons_succ]
      refine wpAnyT_take (oi := ⟨some 61, Op.load 3 (Operand.tmp 60), 3, _, _, none⟩) (v := .int .i64 x2) rfl (fun _ _ _ h => h) (by rfl) (by assumption) (fun wS hSw => ?_) ?_
      · (try dsimp only at hSw); go_simp
      simp only [Act.put, List.setIfInBounds_toArray, List.set_cons_zero, List.set_cons_succ]
      refine wpAnyT_take (oi := ⟨some 64, Op.move (Operand.tmp 10), 25, _, _, none⟩) (v := .slice (some ⟨b, o, none⟩) N c0) rfl (fun _ _ _ h => h) (by rfl) (by assumption) (fun wS hSw => ?_) ?_
      · (try dsimp only at hSw); go_simp
      simp only [Act.put, List.setIfInBounds_toArray, List.set_cons_zero, List.set_cons_succ]
      refine wpAnyT_take (oi := ⟨some 65, Op.move (Operand.tmp 15), 3, _, _, none⟩) (v := .int .i64 k) rfl (fun _ _ _ h => h) (by rfl) (by assumption) (fun wS hSw => ?_) ?_
      · (try dsimp only at hSw); go_simp
      simp only [Act.put, List.setIfInBounds_toArray, List.set_cons_zero, List.set_cons_succ]
      refine wpAnyT_take (oi := ⟨some 69, Op.fieldAddr 24 (Operand.tmp 6) 1, 0, _, _, none⟩) (v := .pointer (some ⟨B, 1, none⟩)) rfl (fun _ _ _ h => h) (by rfl) (by assumption) (fun wS hSw => ?_) ?_
      · (try dsimp only at hSw); go_simp
      simp only [Act.put, List.setIfInBounds_toArray, List.set_cons_zero, List.set_cons_succ]
      refine wpAnyT_take (oi := ⟨some 70, Op.load 3 (Operand.tmp 69), 3, _, _, none⟩) (v := .int .i64 y2) rfl (fun _ _ _ h => h) (by rfl) (by assumption) (fun wS hSw => ?_) ?_
      · (try dsimp only at hSw); go_simp
      simp only [Act.put, List.setIfInBounds_toArray, List.set_cons_zero, List.set_cons_succ]
      refine wpAnyT_end ?_
      refine wpAnyH_listed #[true, true, true, false, false, false, true, true, false, false, true, true, false, false, false, true, true, false, false, false, false, false, false] (by kernel_rfl) ?_
      refine wpAnyT_begin [3, 12, 8, 17] (by kernel_rfl) (by kernel_rfl) ?_
      refine wpAnyT_take (oi := ⟨some 57, Op.indexAddr 25 (Operand.tmp 55) (Operand.tmp 56), 0, _, _, none⟩) (v := .pointer (some ⟨b, o + k * 2, none⟩)) rfl (fun _ _ _ h => h) (by rfl) (by assumption) (fun wS hSw => ?_) ?_
      · (try dsimp only at hSw); go_simp
      simp only [Act.put, List.setIfInBounds_toArray, List.set_cons_zero, List.set_cons_succ]
      refine wpAnyT_take (oi := ⟨some 66, Op.indexAddr 25 (Operand.tmp 64) (Operand.tmp 65), 0, _, _, none⟩) (v := .pointer (some ⟨b, o + k * 2, none⟩)) rfl (fun _ _ _ h => h) (by rfl) (by assumption) (fun wS hSw => ?_) ?_
      · (try dsimp only at hSw); go_simp
      simp only [Act.put, List.setIfInBounds_toArray, List.set_cons_zero, List.set_cons_succ]
      refine wpAnyT_take (oi := ⟨some 62, Op.binOp BinOp.rem 3 (Operand.tmp 61) (Operand.const (Value.int IntKind.i64 1000)) 3, 3, _, _, none⟩) (v := .int .i64 ux) rfl (fun _ _ _ h => h) (by rfl) (by assumption) (fun wS hSw => ?_) ?_
      · (try dsimp only at hSw); go_simp
      simp only [Act.put, List.setIfInBounds_toArray, List.set_cons_zero, List.set_cons_succ]
      refine wpAnyT_take (oi := ⟨some 71, Op.binOp BinOp.rem 3 (Operand.tmp 70) (Operand.const (Value.int IntKind.i64 1000)) 3, 3, _, _, none⟩) (v := .int .i64 uy) rfl (fun _ _ _ h => h) (by rfl) (by assumption) (fun wS hSw => ?_) ?_
      · (try dsimp only at hSw); go_simp
      simp only [Act.put, List.setIfInBounds_toArray, List.set_cons_zero, List.set_cons_succ]
      refine wpAnyT_end ?_
      refine wpAnyH_listed #[true, true, true, true, false, false, true, true, true, false, true, true, true, false, false, true, true, true, false, false, false, false, false] (by kernel_rfl) ?_
      refine wpAnyT_begin [4, 13] (by kernel_rfl) (by kernel_rfl) ?_
      refine wpAnyT_take (oi := ⟨some 58, Op.fieldAddr 24 (Operand.tmp 57) 0, 0, _, _, none⟩) (v := .pointer (some ⟨b, o + k * 2, none⟩)) rfl (fun _ _ _ h => h) (by rfl) (by assumption) (fun wS hSw => ?_) ?_
      · (try dsimp only at hSw); go_simp
      simp only [Act.put, List.setIfInBounds_toArray, List.set_cons_zero, List.set_cons_succ]
      refine wpAnyT_take (oi := ⟨some 67, Op.fieldAddr 24 (Operand.tmp 66) 1, 0, _, _, none⟩) (v := .pointer (some ⟨b, o + k * 2 + 1, none⟩)) rfl (fun _ _ _ h => h) (by rfl) (by assumption) (fun wS hSw => ?_) ?_
      · (try dsimp only at hSw); go_simp
      simp only [Act.put, List.setIfInBounds_toArray, List.set_cons_zero, List.set_cons_succ]
      refine wpAnyT_end ?_
      refine wpAnyH_listed #[true, true, true, true, true, false, true, true, true, false, true, true, true, true, false, true, true, true, false, false, false, false, false] (by kernel_rfl) ?_
      refine wpAnyT_begin [5, 14] (by kernel_rfl) (by kernel_rfl) ?_
      refine wpAnyT_take (oi := ⟨some 59, Op.load 3 (Operand.tmp 58), 3, _, _, none⟩) (v := .int .i64 x1) rfl (fun _ _ _ h => h) (by rfl) (by assumption) (fun wS hSw => ?_) ?_
      · (try dsimp only at hSw); go_simp
      simp only [Act.put, List.setIfInBounds_toArray, List.set_cons_zero, List.set_cons_succ]
      refine wpAnyT_take (oi := ⟨some 68, Op.load 3 (Operand.tmp 67), 3, _, _, none⟩) (v := .int .i64 y1) rfl (fun _ _ _ h => h) (by rfl) (by assumption) (fun wS hSw => ?_) ?_
      · (try dsimp only at hSw); go_simp
      simp only [Act.put, List.setIfInBounds_toArray, List.set_cons_zero, List.set_cons_succ]
      refine wpAnyT_end ?_
      refine wpAnyH_listed #[true, true, true, true, true, true, true, true, true, false, true, true, true, true, true, true, true, true, false, false, false, false, false] (by kernel_rfl) ?_
      refine wpAnyT_begin [9, 18] (by kernel_rfl) (by kernel_rfl) ?_
      refine wpAnyT_take (oi := ⟨some 63, Op.binOp BinOp.add 3 (Operand.tmp 59) (Operand.tmp 62) 3, 3, _, _, none⟩) (v := .int .i64 mx) rfl (fun _ _ _ h => h) (by rfl) (by assumption) (fun wS hSw => ?_) ?_
      · (try dsimp only at hSw); go_simp
      simp only [Act.put, List.setIfInBounds_toArray, List.set_cons_zero, List.set_cons_succ]
      refine wpAnyT_take (oi := ⟨some 72, Op.binOp BinOp.add 3 (Operand.tmp 68) (Operand.tmp 71) 3, 3, _, _, none⟩) (v := .int .i64 my) rfl (fun _ _ _ h => h) (by rfl) (by assumption) (fun wS hSw => ?_) ?_
      · (try dsimp only at hSw); go_simp
      simp only [Act.put, List.setIfInBounds_toArray, List.set_cons_zero, List.set_cons_succ]
      refine wpAnyT_end ?_
      refine wpAnyH_listed #[true, true, true, true, true, true, true, true, true, true, true, true, true, true, true, true, true, true, true, false, false, false, false] (by kernel_rfl) ?_
      refine wpAnyH_ready (rs := [19]) (by kernel_rfl) (by simp) ?_
      refine AllReadyH.cons (o := ⟨some 73, Op.call { callee := Callee.value (Operand.func 13), args := #[Operand.tmp 63, Operand.tmp 72], argTypes := #[3, 3] }, 24, _, _, none⟩) rfl (fun K hK => ?_) AllReadyH.nil
      go_simp
      go_at_call 13
      refine (calls_two Cd (at_any mx my _)).mono ?_
      rintro e w10 ⟨rfl, C10, g10⟩
      go_wp2_with fail
      clear hHeld
      refine hK.out _ _ (HS.out _ C10) (fun hHeld => ?_)
      clear hK K
      try simp only [List.setIfInBounds_toArray, List.set_cons_zero, List.set_cons_succ]
      refine wpAnyH_listed #[true, true, true, true, true, true, true, true, true, true, true, true, true, true, true, true, true, true, true, true, false, false, false] (by kernel_rfl) ?_
      have LB10 := LBd.later g10
      have HM10 := HMd.later g10
      clear Cd LBd HMd g10
      refine wpAnyH_ready (rs := [20]) (by kernel_rfl) (by simp) ?_
      refine AllReadyH.cons (o := ⟨some 74, Op.buildSlice 25 1 #[(0, Operand.tmp 73)], 25, _, _, none⟩) rfl (fun K hK => ?_) AllReadyH.nil
      have C11 := C10.push [.int .i64 mx, .int .i64 my] 24
      have LB11 := LB10.later ((Below.refl _ w10).alloc (Nat.le_refl _) (.cells #[.int .i64 mx, .int .i64 my] 24))
      have HM11 := HM10.later ((Below.refl _ w10).alloc (Nat.le_refl _) (.cells #[.int .i64 mx, .int .i64 my] 24))
      go_simp
      change Has w6 _ (w10.alloc (.cells #[.int .i64 mx, .int .i64 my] 24)) at C11
      generalize w10.alloc (.cells #[.int .i64 mx, .int .i64 my] 24) = w11 at *
      generalize w10.heap.size = V2 at *
      clear hHeld
      refine hK.out _ _ (HS.out _ C11.tail) (fun hHeld => ?_)
      clear hK K
      try simp only [List.setIfInBounds_toArray, List.set_cons_zero, List.set_cons_succ]
      refine wpAnyH_listed #[true, true, true, true, true, true, true, true, true, true, true, true, true, true, true, true, true, true, true, true, true, false, false] (by kernel_rfl) ?_
      have R11 : RowP w11 (.slice (some ⟨V2, 0, none⟩) 1 1) [(mx, my)] := RowP.block (ps := [(mx, my)]) (c := 1) C11.cells (Nat.le_refl _) (by omega)
      clear C10 LB10 HM10
      refine wpAnyH_ready (rs := [21]) (by kernel_rfl) (by simp) ?_
      refine AllReadyH.cons (o := ⟨some 75, Op.call { callee := Callee.builtin Builtin.append, args := #[Operand.tmp 54, Operand.tmp 74], argTypes := #[25, 25] }, 25, _, _, none⟩) rfl (fun K hK => ?_) AllReadyH.nil
      refine held_append2 rfl _ _ rfl rfl HM11 rfl R11 hlm C11.low.size ?_
      intro u12 w12 H12 G12 E12
      have I12 : Has w6 [] w12 := Has.nil (grow_append C11.low HM11 (Nat.le_refl _) G12)
      have L12 := A8.symm.keep LB11 G12
      have A12 := (A8.symm.grown LB11 E12).symm
      simp only [Act.put, List.setIfInBounds_toArray, List.set_cons_zero, List.set_cons_succ]
      clear hHeld
      refine hK.out _ _ (HS.out _ I12) (fun hHeld => ?_)
      clear hK K
      try simp only [List.setIfInBounds_toArray, List.set_cons_zero, List.set_cons_succ]
      refine wpAnyH_listed #[true, true, true, true, true, true, true, true, true, true, true, true, true, true, true, true, true, true, true, true, true, true, false] (by kernel_rfl) ?_
      refine wpAnyT_begin [22] (by kernel_rfl) (by kernel_rfl) ?_
      refine wpAnyT_take (oi := ⟨some 14, Op.assign (Operand.tmp 75), 25, _, _, none⟩) (v := u12) rfl (fun _ _ _ h => h) (by rfl) (by assumption) (fun wS hSw => ?_) ?_
      · (try dsimp only at hSw); go_simp
      simp only [Act.put, List.setIfInBounds_toArray, List.set_cons_zero, List.set_cons_succ]
      refine wpAnyT_end ?_
      refine wpAnyH_listed #[true, true, true, true, true, true, true, true, true, true, true, true, true, true, true, true, true, true, true, true, true, true, true] (by kernel_rfl) ?_
      refine wpAnyH_done (by kernel_rfl) ?_ _
      clear hHeld
      rw [hnm.out] at H12
      clear HS A8 LB11 HM11 R11 C11 G12 E12
      go_wp2_with fail
      go_roundw
      case rel => exact ⟨k + 1, by omega, by go_num, L12, H12, A12, I12⟩
      case measure => simp [RowKit.intOf]; omega
    · obtain rfl : N = k := by omega
      clear hlt hk hux huy
      rw [List.take_of_length_le (by rw [List.length_reverse, HN.out]; exact Nat.le_refl _)] at OB
      rw [List.take_of_length_le (by rw [List.length_map, HN.out]; exact Nat.le_refl _)] at OM
      obtain ⟨Ar, hAr, hA0, hA1, hAt, hAb, hAm⟩ := area_law HM.out
      have HA := Lib.hid hAr
      have HAT := Lib.hid (show areaP Tn = Ar by rw [← HTn.out]; exact hAt i HIK.out)
      obtain ⟨Bk, hBk⟩ : ∃ l, r.reverse = l := ⟨_, rfl⟩
      obtain ⟨Mv, hMv⟩ : ∃ l, r.map (tv ux uy) = l := ⟨_, rfl⟩
      have HAB := Lib.hid (show areaP Bk = -Ar by rw [← hBk]; exact hAb)
      have HAM := Lib.hid (show areaP Mv = Ar by rw [← hMv]; exact hAm ux uy bux buy)
      rw [hBk] at OB
      rw [hMv] at OM
      obtain ⟨aB, cB, rfl⟩ := row_form OB.row
      obtain ⟨aM, cM, rfl⟩ := row_form OM.row
      replace OR := OR.later hI.low
      replace OT := OT.later hI.low
      replace D := D.later hI.low
      have HBk := Lib.hid hBk
      have bA : ¬ Ar < 0 := by omega
      have bA2 : ¬ Ar = 0 := by omega
      have BA3 := Lib.hid (show (Ar != 0) = true from bne_iff_ne.2 bA2)
      clear hAr hAt hAb hAm hBk hMv hA hI R0 RTn
      have wAr : IntKind.i64.wrap (-Ar) = -Ar := IntWalk.i64_in _ (by omega)
      go_wp2_with fail
      refine (calls_two D (area_is _ _ _ OR.row _ HA.out)).mono ?_
      rintro e w21 ⟨rfl, C21, g21⟩
      replace OR := OR.later g21
      replace OT := OT.later g21
      replace OB := OB.later g21
      replace OM := OM.later g21
      clear D g21
      have k0 := C21.fact (.head _) (i := 0) rfl
      have k1 := C21.fact (.head _) (i := 1) rfl
      go_wp2_with fail
      refine (calls_two C21 (at_any _ _ _)).mono ?_
      rintro e w22 ⟨rfl, C22, g22⟩
      replace OR := OR.later g22
      replace OT := OT.later g22
      replace OB := OB.later g22
      replace OM := OM.later g22
      clear C21 g22
      clear k0 k1
      have bpx := tmod_abs x3 30 (by omega)
      have bpy := tmod_abs y3 30 (by omega)
      generalize x3.tmod 30 = px at *
      generalize y3.tmod 30 = py at *
      have k0 := C22.fact (.head _) (i := 0) rfl
      have k1 := C22.fact (.head _) (i := 1) rfl
      have f0 := C22.free (.head _) (i := 0) rfl
      have f1 := C22.free (.head _) (i := 1) rfl
      go_upto_region 14 with fail
      have C30 := C22.set2 (.int .i64 px) (.int .i64 py)
      have OR0 := (Oth.set P 1 _ (.int .i64 py)).own hP1 ((Oth.set P 0 _ (.int .i64 px)).own hP1 OR)
      have OT0 := (Oth.set P 1 _ (.int .i64 py)).own hP3 ((Oth.set P 0 _ (.int .i64 px)).own hP3 OT)
      have OB0 := (Oth.set P 1 _ (.int .i64 py)).own hP6 ((Oth.set P 0 _ (.int .i64 px)).own hP6 OB)
      have OM0 := (Oth.set P 1 _ (.int .i64 py)).own hP6 ((Oth.set P 0 _ (.int .i64 px)).own hP6 OM)
      generalize (w22.setCell ⟨P, 0, none⟩ (.int .i64 px)).setCell ⟨P, 1, none⟩ (.int .i64 py) = w30 at *
      clear k0 k1 f0 f1 C22 OR OT OB OM
      obtain ⟨hin, hit, hib⟩ := inside_law HM.out (x := px) (y := py) (by omega) (by omega)
      obtain ⟨zi, hzi⟩ : ∃ z, insP r (px, py) = z := ⟨_, rfl⟩
      rw [hzi] at hin
      rw [HN.out] at hin
      have HI0 := Lib.hid (show insC r (px, py) = zi by rw [← hzi]; exact ins_box (by dsimp only; omega) (by dsimp only; omega))
      have HI1 := Lib.hid (show insC Tn (px, py) = zi by rw [← hzi, ← hit i HIK.out, HTn.out]; exact ins_box (by dsimp only; omega) (by dsimp only; omega))
      have HI2 := Lib.hid (show insC Bk (px, py) = zi by rw [← hzi, ← hib, HBk.out]; exact ins_box (by dsimp only; omega) (by dsimp only; omega))
      have HIN := Lib.hid hin
      have hI0 : Has w30 [] w30 := Has.nil (Below.refl _ _)
      clear hin hit hib hzi
      go_wp2_with fail
      go_loopw [17, 88] (fun s i wr => ∃ k : Nat, k ≤ N ∧ i = .int .i64 k ∧ s = .int .i64 (sumT (rayK r (px, py)) k) ∧ Has w30 [] wr) (fun _ i _ => N - (RowKit.intOf i).toNat)
      case atStart => exact ⟨0, Nat.zero_le _, rfl, rfl, hI0⟩
      case round =>
        clear hI0
        obtain ⟨k, hk, rfl, rfl, hI⟩ := hrel
        by_cases hlt : k < N
        · obtain ⟨x1, y1, hp⟩ := some_pt (ps := r) (k := k) (by rw [HN.out]; exact hlt)
          obtain ⟨j, hj⟩ : ∃ j, nx N k = j := ⟨_, rfl⟩
          have hjN : j < N := by rw [← hj]; exact nx_lt hlt
          obtain ⟨x4, y4, hp4⟩ := some_pt (ps := r) (k := j) (by rw [HN.out]; exact hjN)
          have hsb := sumT_abs (f := rayK r (px, py)) (n := k) fun z _ => by
            have := rayOf_bd (pt r z).1 (pt r z).2 (pt r (nx r.length z)).1 (pt r (nx r.length z)).2 px py
            unfold rayK
            dsimp only
            omega
          obtain ⟨rr, hrr⟩ : ∃ z, rayOf x1 y1 x4 y4 px py = z := ⟨_, rfl⟩
          have hrb := rayOf_bd x1 y1 x4 y4 px py
          rw [hrr] at hrb
          have hnext : sumT (rayK r (px, py)) k + rr = sumT (rayK r (px, py)) (k + 1) := by
            show _ = sumT (rayK r (px, py)) k + rayK r (px, py) k
            unfold rayK
            rw [HN.out, hj, pt_of hp, pt_of hp4, hrr]
          obtain ⟨s1, hs1⟩ : ∃ z, sumT (rayK r (px, py)) k = z := ⟨_, rfl⟩
          obtain ⟨s2, hs2⟩ : ∃ z, sumT (rayK r (px, py)) (k + 1) = z := ⟨_, rfl⟩
          rw [hs1] at hsb hnext ⊢
          rw [hs2] at hnext
          have HS2 := Lib.hid hs2
          have HRR := Lib.hid hrr
          obtain ⟨e, he⟩ : ∃ e, k + 1 = e := ⟨_, rfl⟩
          have ke : IntKind.i64.wrap ((k : Int) + 1) = (e : Int) := by rw [IntWalk.i64_in _ (by omega)]; omega
          have hrem : (e : Int).tmod N = (j : Int) := by
            rw [← hj]
            unfold nx
            by_cases c : k + 1 = N
            · rw [if_pos c, ← he, c, Int.tmod_self]; rfl
            · rw [if_neg c, ← he]
              exact Int.tmod_eq_of_lt (by omega) (by omega)
          have ws2 : IntKind.i64.wrap s2 = s2 := IntWalk.i64_in _ (by omega)
          have b2 : (k : Int) < N := by omega
          have b3 : (0 : Int) ≤ k := by omega
          have b4 : (j : Int) < N := by omega
          have b5 : (0 : Int) ≤ j := by omega
          have bN : ¬ (N : Int) = 0 := by omega
          have bN' : ¬ N = 0 := by omega
          clear hs1 hs2 hrr hj
          go_upto_region 18 with fail
          have HS := Lib.hid (show ∀ w', Has w30 [] w' → w'.cell? ⟨b, o + k * 2, none⟩ = some (.int .i64 x1) ∧ w'.cell? ⟨b, o + k * 2 + 1, none⟩ = some (.int .i64 y1) ∧ w'.cell? ⟨b, o + j * 2, none⟩ = some (.int .i64 x4) ∧ w'.cell? ⟨b, o + j * 2 + 1, none⟩ = some (.int .i64 y4) ∧ w'.cell? ⟨P, 0, none⟩ = some (.int .i64 px) ∧ w'.cell? ⟨P, 1, none⟩ = some (.int .i64 py) from fun w' h => ⟨((OR0.later h.low).row.cells hp).1, ((OR0.later h.low).row.cells hp).2, ((OR0.later h.low).row.cells hp4).1, ((OR0.later h.low).row.cells hp4).2, (C30.later h.low).fact (.head _) (i := 0) rfl, (C30.later h.low).fact (.head _) (i := 1) rfl⟩)
          have Cd := hI.drew
          refine wp_region_held_drew (S := fun w' => w'.cell? ⟨b, o + k * 2, none⟩ = some (.int .i64 x1) ∧ w'.cell? ⟨b, o + k * 2 + 1, none⟩ = some (.int .i64 y1) ∧ w'.cell? ⟨b, o + j * 2, none⟩ = some (.int .i64 x4) ∧ w'.cell? ⟨b, o + j * 2 + 1, none⟩ = some (.int .i64 y4) ∧ w'.cell? ⟨P, 0, none⟩ = some (.int .i64 px) ∧ w'.cell? ⟨P, 1, none⟩ = some (.int .i64 py)) (by kernel_rfl) (HS.out _ Cd) (fun hHeld => ?_)
          generalize wr.drew = w31 at *
          clear hI hp hp4
          refine wpAnyT_begin [0, 1, 2, 5, 6, 8] (by kernel_rfl) (by kernel_rfl) ?_
          refine wpAnyT_take (oi := ⟨some 91, Op.move (Operand.tmp 17), 3, _, _, none⟩) (v := .int .i64 s1) rfl (fun _ _ _ h => h) (by rfl) (by assumption) (fun wS hSw => ?_) ?_
          · (try dsimp only at hSw); go_simp
          simp only [Act.put, List.setIfInBounds_toArray, List.set_cons_zero, List.set_cons_succ]
          refine wpAnyT_take (oi := ⟨some 92, Op.move (Operand.tmp 10), 25, _, _, none⟩) (v := .slice (some ⟨b, o, none⟩) N c0) rfl (fun _ _ _ h => h) (by rfl) (by assumption) (fun wS hSw => ?_) ?_
          · (try dsimp only at hSw); go_simp
          simp only [Act.put, List.setIfInBounds_toArray, List.set_cons_zero, List.set_cons_succ]
          refine wpAnyT_take (oi := ⟨some 93, Op.move (Operand.tmp 18), 3, _, _, none⟩) (v := .int .i64 k) rfl (fun _ _ _ h => h) (by rfl) (by assumption) (fun wS hSw => ?_) ?_
          · (try dsimp only at hSw); go_simp
          simp only [Act.put, List.setIfInBounds_toArray, List.set_cons_zero, List.set_cons_succ]
          refine wpAnyT_take (oi := ⟨some 96, Op.move (Operand.tmp 10), 25, _, _, none⟩) (v := .slice (some ⟨b, o, none⟩) N c0) rfl (fun _ _ _ h => h) (by rfl) (by assumption) (fun wS hSw => ?_) ?_
          · (try dsimp only at hSw); go_simp
          simp only [Act.put, List.setIfInBounds_toArray, List.set_cons_zero, List.set_cons_succ]
          refine wpAnyT_take (oi := ⟨some 97, Op.move (Operand.tmp 18), 3, _, _, none⟩) (v := .int .i64 k) rfl (fun _ _ _ h => h) (by rfl) (by assumption) (fun wS hSw => ?_) ?_
          · (try dsimp only at hSw); go_simp
          simp only [Act.put, List.setIfInBounds_toArray, List.set_cons_zero, List.set_cons_succ]
          refine wpAnyT_take (oi := ⟨some 99, Op.move (Operand.tmp 10), 25, _, _, none⟩) (v := .slice (some ⟨b, o, none⟩) N c0) rfl (fun _ _ _ h => h) (by rfl) (by assumption) (fun wS hSw => ?_) ?_
          · (try dsimp only at hSw); go_simp
          simp only [Act.put, List.setIfInBounds_toArray, List.set_cons_zero, List.set_cons_succ]
          refine wpAnyT_end ?_
          refine wpAnyH_listed #[true, true, true, false, false, true, true, false, true, false, false, false, false, false, false, false, false] (by kernel_rfl) ?_
          refine wpAnyT_begin [13] (by kernel_rfl) (by kernel_rfl) ?_
          refine wpAnyT_take (oi := ⟨some 104, Op.load 24 (Operand.tmp 7), 24, _, _, none⟩) (v := .agg #[.int .i64 px, .int .i64 py]) rfl (fun _ _ _ h => h) (by rfl) (by assumption) (fun wS hSw => ?_) ?_
          · (try dsimp only at hSw); go_simp
          simp only [Act.put, List.setIfInBounds_toArray, List.set_cons_zero, List.set_cons_succ]
          refine wpAnyT_end ?_
          refine wpAnyH_listed #[true, true, true, false, false, true, true, false, true, false, false, false, false, true, false, false, false] (by kernel_rfl) ?_
          refine wpAnyT_begin [3, 7, 9] (by kernel_rfl) (by kernel_rfl) ?_
          refine wpAnyT_take (oi := ⟨some 94, Op.indexAddr 25 (Operand.tmp 92) (Operand.tmp 93), 0, _, _, none⟩) (v := .pointer (some ⟨b, o + k * 2, none⟩)) rfl (fun _ _ _ h => h) (by rfl) (by assumption) (fun wS hSw => ?_) ?_
          · (try dsimp only at hSw); go_simp
          simp only [Act.put, List.setIfInBounds_toArray, List.set_cons_zero, List.set_cons_succ]
          refine wpAnyT_take (oi := ⟨some 98, Op.binOp BinOp.add 3 (Operand.tmp 97) (Operand.const (Value.int IntKind.i64 1)) 3, 3, _, _, none⟩) (v := .int .i64 e) rfl (fun _ _ _ h => h) (by rfl) (by assumption) (fun wS hSw => ?_) ?_
          · (try dsimp only at hSw); go_simp
          simp only [Act.put, List.setIfInBounds_toArray, List.set_cons_zero, List.set_cons_succ]
          refine wpAnyT_take (oi := ⟨some 100, Op.call { callee := Callee.builtin Builtin.len, args := #[Operand.tmp 99], argTypes := #[25] }, 3, _, _, none⟩) (v := .int .i64 N) rfl (fun _ _ _ h => h) (by rfl) (by assumption) (fun wS hSw => ?_) ?_
          · (try dsimp only at hSw); go_simp
          simp only [Act.put, List.setIfInBounds_toArray, List.set_cons_zero, List.set_cons_succ]
          refine wpAnyT_end ?_
          refine wpAnyH_listed #[true, true, true, true, false, true, true, true, true, true, false, false, false, true, false, false, false] (by kernel_rfl) ?_
          refine wpAnyT_begin [4, 10] (by kernel_rfl) (by kernel_rfl) ?_
          refine wpAnyT_take (oi := ⟨some 95, Op.load 24 (Operand.tmp 94), 24, _, _, none⟩) (v := .agg #[.int .i64 x1, .int .i64 y1]) rfl (fun _ _ _ h => h) (by rfl) (by assumption) (fun wS hSw => ?_) ?_
          · (try dsimp only at hSw); go_simp
          simp only [Act.put, List.setIfInBounds_toArray, List.set_cons_zero, List.set_cons_succ]
          refine wpAnyT_take (oi := ⟨some 101, Op.binOp BinOp.rem 3 (Operand.tmp 98) (Operand.tmp 100) 3, 3, _, _, none⟩) (v := .int .i64 j) rfl (fun _ _ _ h => h) (by rfl) (by assumption) (fun wS hSw => ?_) ?_
          · (try dsimp only at hSw); go_simp
          simp only [Act.put, List.setIfInBounds_toArray, List.set_cons_zero, List.set_cons_succ]
          refine wpAnyT_end ?_
          refine wpAnyH_listed #[true, true, true, true, true, true, true, true, true, true, true, false, false, true, false, false, false] (by kernel_rfl) ?_
          refine wpAnyT_begin [11] (by kernel_rfl) (by kernel_rfl) ?_
          refine wpAnyT_take (oi := ⟨some 102, Op.indexAddr 25 (Operand.tmp 96) (Operand.tmp 101), 0, _, _, none⟩) (v := .pointer (some ⟨b, o + j * 2, none⟩)) rfl (fun _ _ _ h => h) (by rfl) (by assumption) (fun wS hSw => ?_) ?_
          · (try dsimp only at hSw); go_simp
          simp only [Act.put, List.setIfInBounds_toArray, List.set_cons_zero, List.set_cons_succ]
          refine wpAnyT_end ?_
          refine wpAnyH_listed #[true, true, true, true, true, true, true, true, true, true, true, true, false, true, false, false, false] (by kernel_rfl) ?_
          refine wpAnyT_begin [12] (by kernel_rfl) (by kernel_rfl) ?_
          refine wpAnyT_take (oi := ⟨some 103, Op.load 24 (Operand.tmp 102), 24, _, _, none⟩) (v := .agg #[.int .i64 x4, .int .i64 y4]) rfl (fun _ _ _ h => h) (by rfl) (by assumption) (fun wS hSw => ?_) ?_
          · (try dsimp only at hSw); go_simp
          simp only [Act.put, List.setIfInBounds_toArray, List.set_cons_zero, List.set_cons_succ]
          refine wpAnyT_end ?_
          refine wpAnyH_listed #[true, true, true, true, true, true, true, true, true, true, true, true, true, true, false, false, false] (by kernel_rfl) ?_
          refine wpAnyH_ready (rs := [14]) (by kernel_rfl) (by simp) ?_
          refine AllReadyH.cons (o := ⟨some 105, Op.call { callee := Callee.value (Operand.func 20), args := #[Operand.tmp 95, Operand.tmp 103, Operand.tmp 104], argTypes := #[24, 24, 24] }, 3, _, _, none⟩) rfl (fun K hK => ?_) AllReadyH.nil
          go_simp
          go_at_call 20
          refine (calls_two Cd (ray_is x1 y1 x4 y4 px py rr HRR.out _)).mono ?_
          rintro e2 w32 ⟨rfl, C32, g32⟩
          go_wp2_with fail
          clear hHeld
          refine hK.out _ _ (HS.out _ C32) (fun hHeld => ?_)
          clear hK K
          try simp only [List.setIfInBounds_toArray, List.set_cons_zero, List.set_cons_succ]
          refine wpAnyH_listed #[true, true, true, true, true, true, true, true, true, true, true, true, true, true, true, false, false] (by kernel_rfl) ?_
          refine wpAnyT_begin [15] (by kernel_rfl) (by kernel_rfl) ?_
          refine wpAnyT_take (oi := ⟨some 106, Op.binOp BinOp.add 3 (Operand.tmp 91) (Operand.tmp 105) 3, 3, _, _, none⟩) (v := .int .i64 s2) rfl (fun _ _ _ h => h) (by rfl) (by assumption) (fun wS hSw => ?_) ?_
          · (try dsimp only at hSw); go_simp
          simp only [Act.put, List.setIfInBounds_toArray, List.set_cons_zero, List.set_cons_succ]
          refine wpAnyT_end ?_
          refine wpAnyH_listed #[true, true, true, true, true, true, true, true, true, true, true, true, true, true, true, true, false] (by kernel_rfl) ?_
          refine wpAnyT_begin [16] (by kernel_rfl) (by kernel_rfl) ?_
          refine wpAnyT_take (oi := ⟨some 17, Op.assign (Operand.tmp 106), 3, _, _, none⟩) (v := .int .i64 s2) rfl (fun _ _ _ h => h) (by rfl) (by assumption) (fun wS hSw => ?_) ?_
          · (try dsimp only at hSw); go_simp
          simp only [Act.put, List.setIfInBounds_toArray, List.set_cons_zero, List.set_cons_succ]
          refine wpAnyT_end ?_
          refine wpAnyH_listed #[true, true, true, true, true, true, true, true, true, true, true, true, true, true, true, true, true] (by kernel_rfl) ?_
          refine wpAnyH_done (by kernel_rfl) ?_ _
          clear hHeld
          clear HS Cd g32
          have ks : IntKind.i64.wrap ((k : Int) + 1) = ((k + 1 : Nat) : Int) := by rw [IntWalk.i64_in _ (by omega)]; rfl
          clear ke
          go_wp2_with fail
          go_roundw
          case rel => exact ⟨k + 1, by omega, by go_num, by rw [HS2.out], C32⟩
          case measure => simp [RowKit.intOf]; omega
        · obtain rfl : N = k := by omega
          clear hlt hk
          have C := C30.later hI.low
          replace OR0 := OR0.later hI.low
          replace OT0 := OT0.later hI.low
          replace OB0 := OB0.later hI.low
          replace OM0 := OM0.later hI.low
          clear hI C30
          obtain ⟨ss, hss⟩ : ∃ z, sumT (rayK r (px, py)) N = z := ⟨_, rfl⟩
          have hin := HIN.out
          rw [hss] at hin ⊢
          clear hss HIN
          obtain ⟨k0, k1⟩ : wr.cell? ⟨P, 0, none⟩ = some (.int .i64 px) ∧ wr.cell? ⟨P, 1, none⟩ = some (.int .i64 py) := ⟨C.fact (.head _) (i := 0) rfl, C.fact (.head _) (i := 1) rfl⟩
          go_wp2_with fail
          refine (calls_two C (inside_is _ r px py _ OR0.row zi HI0.out)).mono ?_
          rintro e w40 ⟨rfl, C40, g40⟩
          replace OT0 := OT0.later g40
          replace OB0 := OB0.later g40
          replace OM0 := OM0.later g40
          clear k0 k1 C g40 OR0
          rcases hin with ⟨rfl, rfl⟩ | ⟨rfl, rfl⟩ | rfl
          · go_wp2_with fail
            refine (calls_two C40 (area_is _ _ _ OT0.row _ HAT.out)).mono ?_
            rintro e w41 ⟨rfl, C41, g41⟩
            replace OT0 := OT0.later g41
            replace OB0 := OB0.later g41
            replace OM0 := OM0.later g41
            clear C40 g41
            go_wp2_with fail
            refine (calls_two C41 (area_is _ _ _ OB0.row _ HAB.out)).mono ?_
            rintro e w42 ⟨rfl, C42, g42⟩
            replace OT0 := OT0.later g42
            replace OB0 := OB0.later g42
            replace OM0 := OM0.later g42
            clear C41 g42
            go_wp2_with fail
            refine (calls_two C42 (area_is _ _ _ OM0.row _ HAM.out)).mono ?_
            rintro e w43 ⟨rfl, C43, g43⟩
            obtain ⟨k0, k1⟩ : w43.cell? ⟨P, 0, none⟩ = some (.int .i64 px) ∧ w43.cell? ⟨P, 1, none⟩ = some (.int .i64 py) := ⟨C43.fact (.head _) (i := 0) rfl, C43.fact (.head _) (i := 1) rfl⟩
            clear k0 k1
            replace OT0 := OT0.later g43
            replace OB0 := OB0.later g43
            replace OM0 := OM0.later g43
            clear C42 g43
            obtain ⟨k0, k1⟩ : w43.cell? ⟨P, 0, none⟩ = some (.int .i64 px) ∧ w43.cell? ⟨P, 1, none⟩ = some (.int .i64 py) := ⟨C43.fact (.head _) (i := 0) rfl, C43.fact (.head _) (i := 1) rfl⟩
            go_wp2_with fail
            refine (calls_two C43 (inside_is _ Tn px py _ OT0.row _ HI1.out)).mono ?_
            rintro e w44 ⟨rfl, C44, g44⟩
            replace OT0 := OT0.later g44
            replace OB0 := OB0.later g44
            replace OM0 := OM0.later g44
            clear k0 k1
            clear C43 g44
            obtain ⟨k0, k1⟩ : w44.cell? ⟨P, 0, none⟩ = some (.int .i64 px) ∧ w44.cell? ⟨P, 1, none⟩ = some (.int .i64 py) := ⟨C44.fact (.head _) (i := 0) rfl, C44.fact (.head _) (i := 1) rfl⟩
            go_wp2_with fail
            refine (calls_two C44 (inside_is _ Bk px py _ OB0.row _ HI2.out)).mono ?_
            rintro e w45 ⟨rfl, C45, g45⟩
            replace OT0 := OT0.later g45
            replace OB0 := OB0.later g45
            replace OM0 := OM0.later g45
            clear k0 k1
            clear C44 g45
            go_wp2_with fail
            go_ret
            exact ⟨congrArg (fun b => Ending.returned (.bool b)) BA3.out, C45.low⟩
          · go_wp2_with fail
            refine (calls_two C40 (area_is _ _ _ OT0.row _ HAT.out)).mono ?_
            rintro e w41 ⟨rfl, C41, g41⟩
            replace OT0 := OT0.later g41
            replace OB0 := OB0.later g41
            replace OM0 := OM0.later g41
            clear C40 g41
            go_wp2_with fail
            refine (calls_two C41 (area_is _ _ _ OB0.row _ HAB.out)).mono ?_
            rintro e w42 ⟨rfl, C42, g42⟩
            replace OT0 := OT0.later g42
            replace OB0 := OB0.later g42
            replace OM0 := OM0.later g42
            clear C41 g42
            go_wp2_with fail
            refine (calls_two C42 (area_is _ _ _ OM0.row _ HAM.out)).mono ?_
            rintro e w43 ⟨rfl, C43, g43⟩
            obtain ⟨k0, k1⟩ : w43.cell? ⟨P, 0, none⟩ = some (.int .i64 px) ∧ w43.cell? ⟨P, 1, none⟩ = some (.int .i64 py) := ⟨C43.fact (.head _) (i := 0) rfl, C43.fact (.head _) (i := 1) rfl⟩
            clear k0 k1
            replace OT0 := OT0.later g43
            replace OB0 := OB0.later g43
            replace OM0 := OM0.later g43
            clear C42 g43
            obtain ⟨k0, k1⟩ : w43.cell? ⟨P, 0, none⟩ = some (.int .i64 px) ∧ w43.cell? ⟨P, 1, none⟩ = some (.int .i64 py) := ⟨C43.fact (.head _) (i := 0) rfl, C43.fact (.head _) (i := 1) rfl⟩
            go_wp2_with fail
            refine (calls_two C43 (inside_is _ Tn px py _ OT0.row _ HI1.out)).mono ?_
            rintro e w44 ⟨rfl, C44, g44⟩
            replace OT0 := OT0.later g44
            replace OB0 := OB0.later g44
            replace OM0 := OM0.later g44
            clear k0 k1
            clear C43 g44
            obtain ⟨k0, k1⟩ : w44.cell? ⟨P, 0, none⟩ = some (.int .i64 px) ∧ w44.cell? ⟨P, 1, none⟩ = some (.int .i64 py) := ⟨C44.fact (.head _) (i := 0) rfl, C44.fact (.head _) (i := 1) rfl⟩
            go_wp2_with fail
            refine (calls_two C44 (inside_is _ Bk px py _ OB0.row _ HI2.out)).mono ?_
            rintro e w45 ⟨rfl, C45, g45⟩
            replace OT0 := OT0.later g45
            replace OB0 := OB0.later g45
            replace OM0 := OM0.later g45
            clear k0 k1
            clear C44 g45
            go_wp2_with fail
            go_ret
            exact ⟨congrArg (fun b => Ending.returned (.bool b)) BA3.out, C45.low⟩
          · go_wp2_with fail
            refine (calls_two C40 (area_is _ _ _ OT0.row _ HAT.out)).mono ?_
            rintro e w41 ⟨rfl, C41, g41⟩
            replace OT0 := OT0.later g41
            replace OB0 := OB0.later g41
            replace OM0 := OM0.later g41
            clear C40 g41
            go_wp2_with fail
            refine (calls_two C41 (area_is _ _ _ OB0.row _ HAB.out)).mono ?_
            rintro e w42 ⟨rfl, C42, g42⟩
            replace OT0 := OT0.later g42
            replace OB0 := OB0.later g42
            replace OM0 := OM0.later g42
            clear C41 g42
            go_wp2_with fail
            refine (calls_two C42 (area_is _ _ _ OM0.row _ HAM.out)).mono ?_
            rintro e w43 ⟨rfl, C43, g43⟩
            obtain ⟨k0, k1⟩ : w43.cell? ⟨P, 0, none⟩ = some (.int .i64 px) ∧ w43.cell? ⟨P, 1, none⟩ = some (.int .i64 py) := ⟨C43.fact (.head _) (i := 0) rfl, C43.fact (.head _) (i := 1) rfl⟩
            clear k0 k1
            replace OT0 := OT0.later g43
            replace OB0 := OB0.later g43
            replace OM0 := OM0.later g43
            clear C42 g43
            obtain ⟨k0, k1⟩ : w43.cell? ⟨P, 0, none⟩ = some (.int .i64 px) ∧ w43.cell? ⟨P, 1, none⟩ = some (.int .i64 py) := ⟨C43.fact (.head _) (i := 0) rfl, C43.fact (.head _) (i := 1) rfl⟩
            go_wp2_with fail
            refine (calls_two C43 (inside_is _ Tn px py _ OT0.row _ HI1.out)).mono ?_
            rintro e w44 ⟨rfl, C44, g44⟩
            replace OT0 := OT0.later g44
            replace OB0 := OB0.later g44
            replace OM0 := OM0.later g44
            clear k0 k1
            clear C43 g44
            obtain ⟨k0, k1⟩ : w44.cell? ⟨P, 0, none⟩ = some (.int .i64 px) ∧ w44.cell? ⟨P, 1, none⟩ = some (.int .i64 py) := ⟨C44.fact (.head _) (i := 0) rfl, C44.fact (.head _) (i := 1) rfl⟩
            go_wp2_with fail
            refine (calls_two C44 (inside_is _ Bk px py _ OB0.row _ HI2.out)).mono ?_
            rintro e w45 ⟨rfl, C45, g45⟩
            replace OT0 := OT0.later g45
            replace OB0 := OB0.later g45
            replace OM0 := OM0.later g45
            clear k0 k1
            clear C44 g45
            go_wp2_with fail
            go_ret
            exact ⟨congrArg (fun b => Ending.returned (.bool b)) BA3.out, C45.low⟩

end Go.Proofs.Ytmldgjhecoeldaa
