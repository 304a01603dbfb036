/- The reference: Add and Turn. Two lists of the call's own: to append to one leaves the other. The rings that the reference makes. -/
import Derived.Test.YtmldgjhecoeldaaLaw
import Derived.Test.YtmldgjhecoeldaaMv
import Derived.Test.YtmldgjhecoeldaaRCk
import Derived.Test.YtmldgjhecoeldaaGg
namespace Go.Proofs.Ytmldgjhecoeldaa
open Go.RowKit Go.Lib

set_option maxHeartbeats 400000 in
theorem radd_any (a b c d : Int) (w : World) :
    Calls Try.prog 24 #[.agg #[.int .i64 a, .int .i64 b], .agg #[.int .i64 c, .int .i64 d]] w fun e w' => e = .returned (.agg #[.int .i64 (wrap64 (a + c)), .int .i64 (wrap64 (b + d))]) ∧ Below w.heap.size w w' := by
  go_enter Try.func24, Try.ntmps24
  go_wp2
  go_returns
  exact ⟨rfl, by go_grown⟩


set_option maxHeartbeats 1000000 in
theorem rturn_any (x y n : Int) (w : World) :
    Calls Try.prog 25 #[.agg #[.int .i64 x, .int .i64 y], .int .i64 n] w fun e w' => e = .returned (.agg #[.int .i64 (rotN (n % 4).toNat x y).1, .int .i64 (rotN (n % 4).toNat x y).2]) ∧ Below w.heap.size w w' := by
  obtain ⟨m, hm⟩ : ∃ m : Nat, n % 4 = m := ⟨(n % 4).toNat, by omega⟩
  have hm3 : m ≤ 3 := by omega
  have C0 := has2 (w := w) [.int .i64 x, .int .i64 y] [.int .i64 0, .int .i64 0] 24 24
  rw [hm, Int.toNat_natCast]
  have HM := Lib.hid hm
  clear hm
  go_enter Try.func25, Try.ntmps25
  go_wp2_with fail
  change Has w _ ((w.alloc (.cells #[.int .i64 x, .int .i64 y] 24)).alloc (.cells #[.int .i64 0, .int .i64 0] 24)) at C0
  generalize (w.alloc (.cells #[.int .i64 x, .int .i64 y] 24)).alloc (.cells #[.int .i64 0, .int .i64 0] 24) = w1 at *
  go_loopw [5] (fun i wr => ∃ k : Nat, k ≤ m ∧ i = .int .i64 (k : Int) ∧ Has w [(w.heap.size, [.int .i64 (rotN k x y).1, .int .i64 (rotN k x y).2]), (w.heap.size + 1, [.int .i64 0, .int .i64 0])] wr) (fun i _ => m - (intOf i).toNat)
  case atStart => exact ⟨0, by omega, rfl, C0⟩
  case round =>
    clear C0
    obtain ⟨k, hk, rfl, C⟩ := hrel
    go_wp2_with fail
    refine (mod_any _ _ _ (by omega) (by omega)).mono ?_
    rintro e w' ⟨rfl, rfl⟩
    rw [HM.out]
    by_cases hlt : k < m
    · obtain ⟨c0, c1⟩ := C.pt
      obtain ⟨f0, f1⟩ := C.ptf
      have C1 := C.set2 (.int .i64 (wrap64 (-(rotN k x y).2))) (.int .i64 (rotN k x y).1)
      go_wp2_with fail
      go_round
      case rel => exact ⟨k + 1, by omega, by go_num, C1⟩
      case measure => simp [intOf]; omega
    · obtain rfl : k = m := by omega
      have C1 := C.swap.set2 (.int .i64 (rotN k x y).1) (.int .i64 (rotN k x y).2)
      obtain ⟨c0, c1⟩ := C.pt
      obtain ⟨c2, c3⟩ := C.tail.pt
      obtain ⟨f2, f3⟩ := C.tail.ptf
      go_wp2_with fail
      generalize (World.setCell _ ⟨w.heap.size + 1, 0, none⟩ (.int .i64 (rotN k x y).1)).setCell ⟨w.heap.size + 1, 1, none⟩ (.int .i64 (rotN k x y).2) = w3 at *
      obtain ⟨d0, d1⟩ := C1.pt
      exact bodyPost_ret (v := .agg #[.int .i64 (rotN k x y).1, .int .i64 (rotN k x y).2]) (by simp [results, Try.results25, go_sem, d0, d1]) rfl ⟨rfl, C1.low⟩


end Go.Proofs.Ytmldgjhecoeldaa

namespace Go.Proofs.Ytmldgjhecoeldaa
open Go.RowKit Go.Lib

set_option maxRecDepth 100000 in
theorem run_append_own2 {w : World} {b : Nat} {v vx : Value} {ps qs : List (Int × Int)} (ty : TypeId) (h : Own b w v ps) (hx : RowP w vx qs) (hn : ps.length + qs.length ≤ 100000) (hb : b ≤ w.heap.size) :
    ∃ v' w', (Builtin.append_ #[25, 25] ty #[v, vx]).run Try.prog w = .ok v' w' ∧ Own b w' v' (ps ++ qs) ∧ w.grownBy w' v.ownBlock ∧ (v'.ownBlock = v.ownBlock ∨ v'.ownBlock = some w.heap.size) := by
  obtain ⟨i0, hi, hz0, hz1, hz2⟩ := info_parts info24
  obtain ⟨a, cap, rfl, h1, h2, h3⟩ := hx
  unfold Own
  rw [List.length_append, flat_append]
  rcases a with _ | ad
  · have h0 : qs = [] := by
      rcases h3 with h3 | ⟨b, o, h3, _⟩
      · exact h3
      · cases h3
    subst h0
    refine ⟨v, w, ?_, by simpa [flat] using (show w.ownsRow b 24 2 v ps.length (flat ps) from h), World.grownBy.refl w _, .inl rfl⟩
    have hu := run_underlying (P := Try.prog) Try.underlying25
    rcases h.2 with ⟨rfl, h2⟩ | ⟨g, cap, cur, rfl, -, -, hle, -⟩
    · simp [Builtin.append_, hu, sizeOf, typeInfo, hi, Builtin.lenOf, Builtin.firstCells]
    · simp [Builtin.append_, hu, sizeOf, typeInfo, hi, Builtin.lenOf, Builtin.firstCells, hle, storeCells]
  · have hcells : ∀ j u, (flat qs)[j]? = some u → w.cell? (ad.add j) = some u := by
      intro j u hu
      rcases h3 with h3 | ⟨b, o, h3, h4⟩
      · rw [h3] at hu; simp [flat] at hu
      · obtain rfl := Option.some.inj h3
        have ee := Go.WideShapes.add_plain b o j
        rw [ee]
        have hj : j < qs.length * 2 := by rw [← flat_length]; exact (List.getElem?_eq_some_iff.1 hu).1
        have hp := at_pt (ps := qs) (k := j / 2) (by omega)
        obtain ⟨e0, e1⟩ := flat_at hp
        obtain ⟨c0, c1⟩ := h4 _ _ hp
        rcases Nat.mod_two_eq_zero_or_one j with hm | hm
        · rw [show j / 2 * 2 = j by omega] at e0 c0
          rw [e0] at hu
          rw [← hu]
          exact c0
        · rw [show j / 2 * 2 + 1 = j by omega] at e1
          rw [show o + j / 2 * 2 + 1 = o + j by omega] at c1
          rw [e1] at hu
          rw [← hu]
          exact c1
    obtain ⟨v', w', e1, e2, e3, -, e4⟩ := run_append_own_at (P := Try.prog) w b 25 ty 24 i0 (.agg #[.int .i64 0, .int .i64 0]) 2 16 Try.underlying25 hi hz0 hz1 hz2 rfl (by decide) v ps.length (flat ps) h ad qs.length cap (flat qs) (by rw [flat_length]) hcells (flat_one qs)
      (by unfold maxLen; omega) (by omega) hb
    exact ⟨v', w', e1, e2, e3, e4⟩

theorem Own.apart {c : Nat} {W W' : World} {v v2 : Value} {qs : List (Int × Int)} (h2 : Own c W v2 qs) (hne : ∀ k, v2.ownBlock = some k → v.ownBlock ≠ some k) (hg : W.grownBy W' v.ownBlock) : Own c W' v2 qs := by
  refine ⟨h2.1, ?_⟩
  rcases h2.2 with e | ⟨k, cap, cur, e1, e2, e3, e4⟩
  · exact .inl e
  · refine .inr ⟨k, cap, cur, e1, e2, ?_, e4⟩
    rw [hg.block k (Array.getElem?_eq_some_iff.1 e3).1 (fun e => hne k (by rw [e1]; rfl) e.symm)]
    exact e3
/-- At an operation of a plain region. -/
theorem wpList_append2 {ops : Array Oper} {rest : List Oper} {o : Oper} {a : Act} {w : World} {Q : Exit → Act → World → Prop} (hgd : o.guard = none) (s x : Operand)
    (ho : o.op = .call { callee := .builtin .append, args := #[s, x], argTypes := #[25, 25] }) {b : Nat} {v vx : Value} {ps qs : List (Int × Int)} (hs : a.eval s = v) (h : Own b w v ps)
    (hx : a.eval x = vx) (hr : RowP w vx qs) (hn : ps.length + qs.length ≤ 100000) (hb : b ≤ w.heap.size)
    (hK : ∀ v' w', Own b w' v' (ps ++ qs) → w.grownBy w' v.ownBlock → (v'.ownBlock = v.ownBlock ∨ v'.ownBlock = some w.heap.size) → wpList Try.prog ops Q rest (a.put o.dst v') w') : wpList Try.prog ops Q (o :: rest) a w := by
  refine wpList_plain hgd fun K hK' => ?_
  obtain ⟨v', w', e1, e2, e3, e4⟩ := run_append_own2 o.type h hr hn hb
  unfold Oper.wp execOp
  simp only [ho, resolve, invoke, builtin, Sem.run_bind, Sem.run_pure, Result.andThen_ok, List.map_toArray, List.map_cons, List.map_nil, hs, hx, e1]
  exact hK' _ _ (hK v' w' e2 e3 e4)
/-- What is owned lies in memory. -/
theorem Own.lt {b : Nat} {W : World} {v : Value} {ps : List (Int × Int)} (h : Own b W v ps) {k : Nat} (e : v.ownBlock = some k) : b ≤ k ∧ k < W.heap.size := World.ownsRow.lt h k e
/-- Two lists that share no block, also behind an append to the first one. -/
def Apart (u v : Value) : Prop := ∀ k, u.ownBlock = some k → v.ownBlock ≠ some k
theorem Apart.symm {u v : Value} (h : Apart u v) : Apart v u := fun k e e' => h k e' e
theorem Apart.grown {b : Nat} {W : World} {u u' v : Value} {qs : List (Int × Int)} (h : Apart u v) (hv : Own b W v qs) (e : u'.ownBlock = u.ownBlock ∨ u'.ownBlock = some W.heap.size) : Apart u' v := by
  intro k hk hk'
  rcases e with e | e
  · rw [e] at hk; exact h k hk hk'
  · rw [e] at hk; injection hk with hk; have := (hv.lt hk').2; omega
theorem Apart.keep {b : Nat} {W W' : World} {u v : Value} {qs : List (Int × Int)} (h : Apart u v) (hv : Own b W v qs) (hg : W.grownBy W' u.ownBlock) : Own b W' v qs := hv.apart (fun k e e' => h k e' e) hg

end Go.Proofs.Ytmldgjhecoeldaa

namespace Go.Proofs.Ytmldgjhecoeldaa
open Go.RowKit Go.Lib Geo

/-- Columns, from left to right, with the next one's place. -/
structure Cols (k : Nat) (x : Int) (lo hi : List (Int × Int)) : Prop where
  l1 : lo.length = k
  l2 : hi.length = k
  eq : ∀ i, i < k → (pt lo i).1 = (pt hi i).1
  lt : ∀ i, i < k → (pt lo i).2 < (pt hi i).2
  b1 : ∀ i, i < k → -4 ≤ (pt lo i).1 ∧ (pt lo i).1 < x
  b2 : ∀ i, i < k → -4 ≤ (pt lo i).2 ∧ (pt hi i).2 ≤ 11
  inc : ∀ i, i + 1 < k → (pt lo i).1 < (pt lo (i + 1)).1
  bx : -4 ≤ x ∧ x ≤ 3 + 4 * k

theorem pt_snoc {l : List (Int × Int)} {p : Int × Int} {i : Nat} : pt (l ++ [p]) i = if i < l.length then pt l i else if i = l.length then p else (0, 0) := by
  unfold pt
  rw [List.getElem?_append]
  by_cases h : i < l.length
  · rw [if_pos h, if_pos h]
  · rw [if_neg h, if_neg h]
    by_cases h2 : i = l.length
    · rw [if_pos h2, h2, Nat.sub_self]; rfl
    · rw [if_neg h2, List.getElem?_eq_none (by simp; omega)]; rfl
theorem Cols.nil {x : Int} (h : -4 ≤ x ∧ x ≤ 3) : Cols 0 x [] [] :=
  ⟨rfl, rfl, fun _ h => by omega, fun _ h => by omega, fun _ h => by omega, fun _ h => by omega, fun _ h => by omega, by omega⟩
theorem Cols.next {k : Nat} {x y z x' : Int} {lo hi : List (Int × Int)} (h : Cols k x lo hi) (hy : -4 ≤ y) (hyz : y < z) (hz : z ≤ 11) (hx : x < x') (hx' : x' ≤ x + 4) : Cols (k + 1) x' (lo ++ [(x, y)]) (hi ++ [(x, z)]) := by
  have a : ∀ i, i < k + 1 → pt (lo ++ [(x, y)]) i = (if i < k then pt lo i else (x, y)) ∧ pt (hi ++ [(x, z)]) i = (if i < k then pt hi i else (x, z)) := by
    intro i hi'
    rw [pt_snoc, pt_snoc, h.l1, h.l2]
    by_cases c : i < k
    · rw [if_pos c, if_pos c, if_pos c, if_pos c]; exact ⟨rfl, rfl⟩
    · rw [if_neg c, if_neg c, if_neg c, if_neg c, if_pos (by omega), if_pos (by omega)]; exact ⟨rfl, rfl⟩
  have hb := h.bx
  refine ⟨by simp [h.l1], by simp [h.l2], ?_, ?_, ?_, ?_, ?_, ?_⟩
  · intro i hi'; rw [(a i hi').1, (a i hi').2]; split
    · exact h.eq i (by assumption)
    · rfl
  · intro i hi'; rw [(a i hi').1, (a i hi').2]; split
    · exact h.lt i (by assumption)
    · exact hyz
  · intro i hi'; rw [(a i hi').1]; split
    · have := h.b1 i (by assumption); omega
    · simp only; omega
  · intro i hi'; rw [(a i hi').1, (a i hi').2]; split
    · exact h.b2 i (by assumption)
    · simp only; omega
  · intro i hi'; rw [(a i (by omega)).1, (a (i + 1) hi').1]
    rw [if_pos (show i < k by omega)]
    split
    · exact h.inc i (by assumption)
    · exact (h.b1 i (by omega)).2
  · omega

/-- A made ring: columns, turned by quarters. -/
def MadeR (ps : List (Int × Int)) : Prop := ∃ (m t : Nat) (X L H : Nat → Int), Mono m X L H ∧ m ≤ 5 ∧ t ≤ 3 ∧ (∀ k, k < m → (-4 ≤ X k ∧ X k ≤ 23) ∧ (-4 ≤ L k ∧ L k ≤ 11) ∧ (-4 ≤ H k ∧ H k ≤ 11)) ∧ ps.length = 2 * m ∧ ∀ i, i < 2 * m → pt ps i = rq t (mp m X L H i).1 (mp m X L H i).2
theorem made_of {m t : Nat} {x : Int} {lo hi ps : List (Int × Int)} (h : Cols m x lo hi) (hm : 2 ≤ m ∧ m ≤ 5) (ht : t ≤ 3) (hl : ps.length = 2 * m) (hp : ∀ i, i < 2 * m → ps[i]? = ((lo ++ hi.reverse)[i]?).map fun p => rotN t p.1 p.2) : MadeR ps := by
  refine ⟨m, t, fun k => (pt lo k).1, fun k => (pt lo k).2, fun k => (pt hi k).2, ⟨hm.1, fun k hk => h.inc k hk, fun k hk => h.lt k hk⟩, hm.2, ht, ?_, hl, ?_⟩
  · intro k hk
    have h1 := h.b1 k hk
    have h2 := h.b2 k hk
    have h3 := h.lt k hk
    have h4 := h.bx
    simp only
    omega
  · intro i hi'
    have e : (lo ++ hi.reverse)[i]? = some (mp m (fun k => (pt lo k).1) (fun k => (pt lo k).2) (fun k => (pt hi k).2) i) := by
      rw [List.getElem?_append, h.l1]
      unfold mp
      by_cases c : i < m
      · rw [if_pos c, if_pos c, at_pt (by rw [h.l1]; exact c)]
      · rw [if_neg c, if_neg c, List.getElem?_reverse (by rw [h.l2]; omega), h.l2, show m - 1 - (i - m) = 2 * m - 1 - i by omega, at_pt (by rw [h.l2]; omega)]
        simp only
        rw [h.eq _ (by omega)]
    have hb : ∀ k, k < m → (-4 ≤ (pt lo k).1 ∧ (pt lo k).1 ≤ 23) ∧ (-4 ≤ (pt lo k).2 ∧ (pt lo k).2 ≤ 11) ∧ (-4 ≤ (pt hi k).2 ∧ (pt hi k).2 ≤ 11) := by
      intro k hk
      have h1 := h.b1 k hk
      have h2 := h.b2 k hk
      have h3 := h.lt k hk
      have h4 := h.bx
      omega
    unfold pt
    rw [hp i hi', e, Option.map_some, Option.getD_some]
    unfold mp
    split
    · have := hb i (by assumption)
      exact rotN_rq ht (by simp only; omega) (by simp only; omega)
    · have := hb (2 * m - 1 - i) (by omega)
      exact rotN_rq ht (by simp only; omega) (by simp only; omega)
theorem rturn_is (x y n p q : Int) (h : rotN (n % 4).toNat x y = (p, q)) (w : World) :
    Calls Try.prog 25 #[.agg #[.int .i64 x, .int .i64 y], .int .i64 n] w fun e w' => e = .returned (.agg #[.int .i64 p, .int .i64 q]) ∧ Below w.heap.size w w' := by
  have := rturn_any x y n w
  rw [h] at this
  exact this

set_option linter.unusedSimpArgs false in
set_option maxRecDepth 100000 in
set_option maxHeartbeats 16000000 in
theorem made_ring (v : Value) (xs : List Int) (w : World) (R : RowN w v xs) :
    Calls Try.prog 11 #[v] w fun e w' => ∃ u ps, e = .returned u ∧ Own w.heap.size w' u ps ∧ MadeR ps ∧ Below w.heap.size w w' := by
  have HR := Lib.hid R
  obtain ⟨a, cap, rfl, -⟩ := R
  generalize xs.length = n at *
  have C0 := (Has.nil (Below.refl w.heap.size w)).push [.slice a n cap, .int .i64 0] 55
  obtain ⟨D, hD⟩ : ∃ D, w.heap.size = D := ⟨_, rfl⟩
  go_enter Try.func11, Try.ntmps11
  go_wp2_with fail
  change Has w [(w.heap.size, [.slice a n cap, .int .i64 0])] (w.alloc (.cells #[.slice a n cap, .int .i64 0] 55)) at C0
  generalize w.alloc (.cells #[.slice a n cap, .int .i64 0] 55) = w1 at *
  have hDw : w.heap.size ≤ D := by omega
  rw [hD] at C0
  refine (next_any C0 HR.out (by decide) 4 (by decide) (by decide)).mono ?_
  rintro e w2 ⟨r, t, rfl, hr0, hr1, ht, C1, -⟩
  obtain ⟨M, hM⟩ : ∃ M : Nat, 2 + r = (M : Int) := ⟨(2 + r).toNat, by omega⟩
  have hM2 : 2 ≤ M ∧ M ≤ 5 := by omega
  have wM : IntKind.i64.wrap (2 + r) = (M : Int) := by rw [IntWalk.i64_in _ (by omega)]; exact hM
  go_wp2_with fail
  clear C0 hM hr0 hr1
  refine (next_any C1 HR.out ht 4 (by decide) (by decide)).mono ?_
  rintro e w3 ⟨T, t2, rfl, hT0, hT1, ht2, C2, -⟩
  clear C1 ht
  go_wp2_with fail
  refine (next_any C2 HR.out ht2 8 (by decide) (by decide)).mono ?_
  rintro e w4 ⟨x0, t3, rfl, hx0, hx1, ht3, C3, -⟩
  clear C2 ht2
  have wx : IntKind.i64.wrap (x0 - 4) = x0 - 4 := IntWalk.i64_in _ (by omega)
  have hDP : D < w4.heap.size := C3.lt0
  have hO0 := Own.nil (D + 1) w4
  go_wp2_with fail
  go_loopw [6, 7, 8, 9] (fun lo hi x i wr => ∃ (k : Nat) (t x' : Int) (l h : List (Int × Int)), k ≤ M ∧ i = .int .i64 k ∧ x = .int .i64 x' ∧ Hid (Cols k x' l h) ∧ 0 ≤ t ∧ Has w [(D, [.slice a n cap, .int .i64 t])] wr ∧ Own (D + 1) wr lo l ∧ Own (D + 1) wr hi h ∧ Apart lo hi) (fun _ _ _ i _ => M - (RowKit.intOf i).toNat)
  case atStart => exact ⟨0, t3, x0 - 4, [], [], Nat.zero_le _, rfl, rfl, Lib.hid (Cols.nil (by omega)), ht3, C3, hO0, hO0, fun k e => by cases e⟩
  case round =>
    clear C3 hO0 ht3 hx0 hx1 wx
    obtain ⟨k, t4, x, l, h, hk, rfl, rfl, HC, ht4, hI, hL, hH, hA⟩ := hrel
    by_cases hlt : k < M
    · have b1 : (k : Int) < M := by omega
      have ks : IntKind.i64.wrap ((k : Int) + 1) = ((k + 1 : Nat) : Int) := by rw [IntWalk.i64_in _ (by omega)]; rfl
      have hbx := HC.out.bx
      go_wp2_with fail
      refine (next_any hI HR.out ht4 9 (by decide) (by decide)).mono ?_
      rintro e w6 ⟨y, t5, rfl, hy0, hy1, ht5, C6, O6⟩
      have L6 := O6.own (Nat.lt_succ_self _) hL
      have H6 := O6.own (Nat.lt_succ_self _) hH
      have wy : IntKind.i64.wrap (y - 4) = y - 4 := IntWalk.i64_in _ (by omega)
      have hD6 : D + 1 ≤ w6.heap.size := C6.lt0
      clear hI O6 hL hH ht4
      obtain ⟨y', hy'⟩ : ∃ y', y - 4 = y' := ⟨_, rfl⟩
      have hyb : -4 ≤ y' ∧ y' ≤ 4 := by omega
      replace wy : IntKind.i64.wrap (y - 4) = y' := wy.trans hy'
      clear hy' hy0 hy1
      have hLl : l.length ≤ 5 := by rw [HC.out.l1]; omega
      have hHl : h.length ≤ 5 := by rw [HC.out.l2]; omega
      obtain ⟨C7, R7⟩ := one_row C6 rfl [(x, y')] (by simp)
      have g7 : Grows w6 (w6.alloc (.cells (flat [(x, y')]).toArray 24)) := (Below.refl _ w6).alloc (Nat.le_refl _) _
      have L7 := L6.later g7
      have H7 := H6.later g7
      change RowP (w6.alloc (.cells #[.int .i64 x, .int .i64 y'] 24)) _ _ at R7
      change Own _ (w6.alloc (.cells #[.int .i64 x, .int .i64 y'] 24)) _ _ at L7
      change Own _ (w6.alloc (.cells #[.int .i64 x, .int .i64 y'] 24)) _ _ at H7
      change Has w _ (w6.alloc (.cells #[.int .i64 x, .int .i64 y'] 24)) at C7
      have hD7 : D + 1 ≤ (w6.alloc (.cells #[.int .i64 x, .int .i64 y'] 24)).heap.size := by rw [size_alloc]; omega
      have hwD : w.heap.size ≤ D + 1 := by omega
      clear g7 L6 H6 C6 hD6
      go_wp2_with (at_builtin; refine wpList_append2 rfl _ _ rfl rfl L7 rfl R7 (by simp; omega) hD7 ?_)
      intro lo8 w8 L8 G8 E8
      have C8 := C7.tail.grown L7 (by intro p hp; simp only [List.mem_cons, List.not_mem_nil, or_false] at hp; rcases hp with rfl; exact Nat.lt_succ_self _) hwD G8
      have H8 := hA.keep H7 G8
      have A8 := hA.grown H7 (by rw [size_alloc]; exact E8)
      clear C7 R7 L7 H7 hD7 G8 E8 hA
      go_wp2_with fail
      refine (next_any C8 HR.out ht5 7 (by decide) (by decide)).mono ?_
      rintro e w9 ⟨z, t9, rfl, hz0, hz1, ht9, C9, O9⟩
      have L9 := O9.own (Nat.lt_succ_self _) L8
      have H9 := O9.own (Nat.lt_succ_self _) H8
      clear C8 O9 L8 H8 ht5
      obtain ⟨z', hz'⟩ : ∃ z', y' + 1 + z = z' := ⟨_, rfl⟩
      have wz1 : IntKind.i64.wrap (y' + 1) = y' + 1 := IntWalk.i64_in _ (by omega)
      have wz : IntKind.i64.wrap (y' + 1 + z) = z' := by rw [IntWalk.i64_in _ (by omega)]; exact hz'
      have hzb : y' < z' ∧ z' ≤ 11 := by omega
      clear hz' hz0 hz1
      have hD9 : D + 1 ≤ w9.heap.size := C9.lt0
      obtain ⟨C10, R10⟩ := one_row C9 rfl [(x, z')] (by simp)
      have g10 : Grows w9 (w9.alloc (.cells (flat [(x, z')]).toArray 24)) := (Below.refl _ w9).alloc (Nat.le_refl _) _
      have L10 := L9.later g10
      have H10 := H9.later g10
      change RowP (w9.alloc (.cells #[.int .i64 x, .int .i64 z'] 24)) _ _ at R10
      change Own _ (w9.alloc (.cells #[.int .i64 x, .int .i64 z'] 24)) _ _ at L10
      change Own _ (w9.alloc (.cells #[.int .i64 x, .int .i64 z'] 24)) _ _ at H10
      change Has w _ (w9.alloc (.cells #[.int .i64 x, .int .i64 z'] 24)) at C10
      have hD10 : D + 1 ≤ (w9.alloc (.cells #[.int .i64 x, .int .i64 z'] 24)).heap.size := by rw [size_alloc]; omega
      clear g10 L9 H9 C9 hD9
      go_wp2_with (at_builtin; refine wpList_append2 rfl _ _ rfl rfl H10 rfl R10 (by simp; omega) hD10 ?_)
      intro hi11 w11 H11 G11 E11
      have C11 := C10.tail.grown H10 (by intro p hp; simp only [List.mem_cons, List.not_mem_nil, or_false] at hp; rcases hp with rfl; exact Nat.lt_succ_self _) hwD G11
      have L11 := A8.symm.keep L10 G11
      have A11 := (A8.symm.grown L10 (by rw [size_alloc]; exact E11)).symm
      clear C10 R10 L10 H10 hD10 G11 E11 A8
      have wx1 : IntKind.i64.wrap (x + 1) = x + 1 := IntWalk.i64_in _ (by omega)
      go_wp2_with fail
      refine (next_any C11 HR.out ht9 4 (by decide) (by decide)).mono ?_
      rintro e w12 ⟨q, t12, rfl, hq0, hq1, ht12, C12, O12⟩
      have L12 := O12.own (Nat.lt_succ_self _) L11
      have H12 := O12.own (Nat.lt_succ_self _) H11
      clear C11 O12 L11 H11 ht9
      have wx2 : IntKind.i64.wrap (x + 1 + q) = x + 1 + q := IntWalk.i64_in _ (by omega)
      go_wp2_with fail
      go_roundw
      case rel => exact ⟨k + 1, t12, x + 1 + q, l ++ [(x, y')], h ++ [(x, z')], by omega, by go_num, rfl, Lib.hid (HC.out.next hyb.1 hzb.1 hzb.2 (by omega) (by omega)), ht12, C12, L12, H12, A11⟩
      case measure => simp [RowKit.intOf]; omega
    · obtain rfl : k = M := by omega
      clear hk hlt
      have hl1 := HC.out.l1
      have hl2 := HC.out.l2
      obtain ⟨gh, ch, rfl, -, -⟩ := hH.form (by omega)
      rw [hl2] at hH hA ⊢
      have ks : IntKind.i64.wrap ((k : Int) - 1) = (k : Int) - 1 := IntWalk.i64_in _ (by omega)
      go_wp2_with fail
      have hwD : w.heap.size ≤ D + 1 := by omega
      go_loopw [6, 11] (fun lo i wr => ∃ j : Nat, j ≤ k ∧ i = .int .i64 ((k : Int) - 1 - j) ∧ Has w [(D, [.slice a n cap, .int .i64 t4])] wr ∧ Own (D + 1) wr lo (l ++ h.reverse.take j) ∧ Own (D + 1) wr (.slice (some ⟨gh, 0, none⟩) k ch) h ∧ Apart lo (.slice (some ⟨gh, 0, none⟩) k ch)) (fun _ i _ => (RowKit.intOf i + 1).toNat)
      case atStart => exact ⟨0, Nat.zero_le _, by simp, hI, by simpa using hL, hH, hA⟩
      case round =>
        clear hI hL hH hA
        obtain ⟨j, hj, rfl, hI, hL, hH, hA⟩ := hrel
        by_cases hlt : j < k
        · have b1 : (k : Int) - 1 - j ≥ 0 := by omega
          obtain ⟨i, hi⟩ : ∃ i : Nat, (k : Int) - 1 - j = i := ⟨k - 1 - j, by omega⟩
          have hik : i < k := by omega
          have hrow := hH.row
          have hp : h[i]? = some ((pt h i).1, (pt h i).2) := at_pt (by omega)
          obtain ⟨c0, c1⟩ := hrow.cells hp
          rw [Nat.zero_add] at c0 c1
          have HX := Lib.hid (show l ++ h.reverse.take (j + 1) = (l ++ h.reverse.take j) ++ [((pt h i).1, (pt h i).2)] by
            rw [rev_next (by omega), hl2, show k - 1 - j = i by omega, List.append_assoc])
          generalize (pt h i).1 = x1 at *
          generalize (pt h i).2 = y1 at *
          have hlen : (l ++ h.reverse.take j).length ≤ 10 := by rw [List.length_append, List.length_take, List.length_reverse]; omega
          have hdn : (i : Int) - 1 = (k : Int) - 1 - ((j + 1 : Nat) : Int) := by omega
          have b2 : (i : Int) ≥ 0 := by omega
          have b3 : (i : Int) < k := by omega
          have b4 : (0 : Int) ≤ i := by omega
          have wi : IntKind.i64.wrap ((i : Int) - 1) = (k : Int) - 1 - ((j + 1 : Nat) : Int) := by rw [IntWalk.i64_in _ (by omega)]; exact hdn
          rw [hi]
          obtain ⟨C7, R7⟩ := one_row hI rfl [(x1, y1)] (by simp)
          have g7 : Grows wr (wr.alloc (.cells (flat [(x1, y1)]).toArray 24)) := (Below.refl _ wr).alloc (Nat.le_refl _) _
          have L7 := hL.later g7
          have H7 := hH.later g7
          change RowP (wr.alloc (.cells #[.int .i64 x1, .int .i64 y1] 24)) _ _ at R7
          change Own _ (wr.alloc (.cells #[.int .i64 x1, .int .i64 y1] 24)) _ _ at L7
          change Own _ (wr.alloc (.cells #[.int .i64 x1, .int .i64 y1] 24)) _ _ at H7
          change Has w _ (wr.alloc (.cells #[.int .i64 x1, .int .i64 y1] 24)) at C7
          have hD7 : D + 1 ≤ (wr.alloc (.cells #[.int .i64 x1, .int .i64 y1] 24)).heap.size := by have := C7.tail.lt0; omega
          clear g7 hi hp hrow b1
          go_wp2_with (at_builtin; refine wpList_append2 rfl _ _ rfl rfl L7 rfl R7 (by simp at hlen ⊢; omega) hD7 ?_)
          intro lo8 w8 L8 G8 E8
          have C8 := C7.tail.grown L7 (by intro p hp; simp only [List.mem_cons, List.not_mem_nil, or_false] at hp; rcases hp with rfl; exact Nat.lt_succ_self _) hwD G8
          have H8 := hA.keep H7 G8
          have A8 := hA.grown H7 (by rw [size_alloc]; exact E8)
          clear C7 R7 L7 H7 hD7 G8 E8 hA hI hL hH c0 c1
          go_wp2_with fail
          go_roundw
          case rel => exact ⟨j + 1, by omega, rfl, C8, by rw [HX.out, List.append_assoc]; exact L8, H8, A8⟩
          case measure => simp [RowKit.intOf]; omega
        · obtain rfl : j = k := by omega
          clear hj hlt hH hA
          have hfull : l ++ h.reverse.take j = l ++ h.reverse := by rw [List.take_of_length_le (by rw [List.length_reverse]; omega)]
          rw [hfull] at hL
          have hN : (l ++ h.reverse).length = 2 * j := by rw [List.length_append, List.length_reverse]; omega
          have HP := Lib.hid (fun (ps : List (Int × Int)) (h1 : ps.length = 2 * j) h2 => made_of (t := T.toNat) (ps := ps) HC.out hM2 (by omega) h1 h2)
          generalize l ++ h.reverse = full at *
          obtain ⟨g, c, rfl, hgD, -⟩ := hL.form (by omega)
          rw [hN] at hL ⊢
          have hB0 := hI.low
          have hwg : w.heap.size ≤ g := by omega
          have b1 : ¬ ((j : Int) - 1 - j ≥ 0) := by omega
          have HN := Lib.hid hN
          clear hfull hl1 hl2 HC hN
          obtain ⟨N, hN2⟩ : ∃ N, 2 * j = N := ⟨_, rfl⟩
          rw [hN2] at hL HP HN ⊢
          have hNb : N ≤ 10 := by omega
          have HT := Lib.hid (show (T % 4).toNat = T.toNat by omega)
          go_wp2_with fail
          go_loopw [12] (fun i wr => ∃ (e : Nat) (ls : List (Int × Int)), e ≤ N ∧ i = .int .i64 e ∧ Below w.heap.size w wr ∧ Own (D + 1) wr (.slice (some ⟨g, 0, none⟩) N c) ls ∧ Hid (ls.length = N ∧ ∀ z, ls[z]? = if z < e then (full[z]?).map (fun p => rotN T.toNat p.1 p.2) else full[z]?)) (fun i _ => N - (RowKit.intOf i).toNat)
          case atStart => exact ⟨0, full, Nat.zero_le _, rfl, hB0, hL, Lib.hid ⟨HN.out, fun z => by rw [if_neg (by omega)]⟩⟩
          case round =>
            clear hI hL hB0
            obtain ⟨e, ls, he, rfl, hI, hL, hls⟩ := hrel
            by_cases hlt : e < N
            · have hz := hls.out.2 e
              rw [if_neg (by omega)] at hz
              have hp : full[e]? = some ((pt full e).1, (pt full e).2) := at_pt (by rw [HN.out]; exact hlt)
              rw [hp] at hz
              generalize (pt full e).1 = x1 at *
              generalize (pt full e).2 = y1 at *
              obtain ⟨p, q, hpq⟩ : ∃ p q, rotN (T % 4).toNat x1 y1 = (p, q) := ⟨_, _, rfl⟩
              have HQ := Lib.hid hpq
              have hnext := Lib.hid (show (ls.set e (p, q)).length = N ∧ ∀ z, (ls.set e (p, q))[z]? = if z < e + 1 then (full[z]?).map (fun p => rotN T.toNat p.1 p.2) else full[z]? by
                refine ⟨by rw [List.length_set]; exact hls.out.1, fun z => ?_⟩
                rw [List.getElem?_set, hls.out.1]
                by_cases c1 : e = z
                · subst c1
                  rw [if_pos rfl, if_pos hlt, if_pos (by omega), hp, Option.map_some, ← HT.out, hpq]
                · rw [if_neg c1, hls.out.2 z]
                  by_cases c2 : z < e
                  · rw [if_pos c2, if_pos (by omega)]
                  · rw [if_neg c2, if_neg (by omega)])
              have b2 : (e : Int) < N := by omega
              have b3 : (0 : Int) ≤ e := by omega
              have ks2 : IntKind.i64.wrap ((e : Int) + 1) = ((e + 1 : Nat) : Int) := by rw [IntWalk.i64_in _ (by omega)]; rfl
              obtain ⟨c0, c1⟩ := hL.row.cells hz
              rw [Nat.zero_add] at c0 c1
              clear hp hpq
              go_wp2_with fail
              refine (rturn_is x1 y1 T p q HQ.out _).mono ?_
              rintro e0 w2 ⟨rfl, g2⟩
              have I2 : Below w.heap.size w w2 := hI.trans (g2.mono hI.size)
              have L2 := hL.later g2
              obtain ⟨d0, d1⟩ := L2.row.cells hz
              rw [Nat.zero_add] at d0 d1
              have f0 := L2.frozen (e * 2)
              have f1 := L2.frozen (e * 2 + 1)
              clear c0 c1 hI hL
              go_wp2_with fail
              go_roundw
              case rel => exact ⟨e + 1, ls.set e (p, q), by omega, by go_num, (I2.setCell (p := ⟨g, e * 2, none⟩) hwg _).setCell (p := ⟨g, e * 2 + 1, none⟩) hwg _, L2.set e p q, hnext⟩
              case measure => simp [RowKit.intOf]; omega
            · obtain rfl : e = N := by omega
              go_wp2_with fail
              go_ret
              exact ⟨_, ls, rfl, own_low hL hwD, HP.out ls hls.out.1 (fun z hz => by rw [hls.out.2 z, if_pos hz]), hI⟩
end Go.Proofs.Ytmldgjhecoeldaa
