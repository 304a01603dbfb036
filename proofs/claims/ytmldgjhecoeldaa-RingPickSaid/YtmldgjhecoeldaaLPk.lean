/- The law of RingPick. -/
import Derived.Test.YtmldgjhecoeldaaGm
import Derived.Test.YtmldgjhecoeldaaSn
namespace Go.Proofs.Ytmldgjhecoeldaa
open Go.RowKit Go.Lib

/-- A box that has the first points. -/
structure BoxI (r : List (Int × Int)) (k : Nat) (lx ly hx hy : Int) : Prop where
  i : ∀ i, i < k → (lx ≤ (pt r i).1 ∧ (pt r i).1 ≤ hx) ∧ (ly ≤ (pt r i).2 ∧ (pt r i).2 ≤ hy)
  b : -23 ≤ lx ∧ -23 ≤ ly ∧ hx ≤ 23 ∧ hy ≤ 23
  o : lx ≤ hx ∧ ly ≤ hy
theorem BoxI.to {r : List (Int × Int)} {k : Nat} {lx ly hx hy x y lx' ly' hx' hy' : Int} (h : BoxI r k lx ly hx hy) (hp : pt r k = (x, y)) (a : (lx' ≤ lx ∧ ly' ≤ ly ∧ hx ≤ hx' ∧ hy ≤ hy') ∧ (lx' ≤ x ∧ ly' ≤ y ∧ x ≤ hx' ∧ y ≤ hy') ∧ (-23 ≤ lx' ∧ -23 ≤ ly' ∧ hx' ≤ 23 ∧ hy' ≤ 23)) : BoxI r (k + 1) lx' ly' hx' hy' where
  i := fun i hi => by
    by_cases c : i = k
    · subst c; rw [hp]; simp only; omega
    · have := h.i i (by omega); omega
  b := by omega
  o := by have := h.o; omega
theorem at_ex (x y : Int) (w : World) : Calls Try.prog 13 #[.int .i64 x, .int .i64 y] w fun e w' => ∃ A B : Int, (A ≤ x ∧ x ≤ A) ∧ (B ≤ y ∧ y ≤ B) ∧ e = .returned (.agg #[.int .i64 A, .int .i64 B]) ∧ Below w.heap.size w w' :=
  (at_any x y w).mono fun _ _ ⟨h, k⟩ => ⟨x, y, ⟨Int.le_refl _, Int.le_refl _⟩, ⟨Int.le_refl _, Int.le_refl _⟩, h, k⟩
theorem wt_ins {r : List (Int × Int)} (h : rchkP r = 0) {p : Int × Int} (hp : Inn p) : (insP r p = 1 ∧ wt (pt r) r.length p = 2) ∨ (insP r p = 0 ∧ wt (pt r) r.length p = 1) ∨ (insP r p = -1 ∧ wt (pt r) r.length p = 0) := by
  obtain ⟨-, ha, -⟩ := rchk_ok.1 h
  unfold insP wt
  rw [if_neg (by rw [h]; simp), insV_in ha hp]
  by_cases c : Off (pt r) r.length p
  · rw [if_pos c, if_pos c]
    by_cases d : rays (pt r) r.length p = 0
    · rw [if_pos d, if_pos d]; exact .inr (.inr ⟨rfl, rfl⟩)
    · rw [if_neg d, if_neg d]; exact .inl ⟨rfl, rfl⟩
  · rw [if_neg c, if_neg c]; exact .inr (.inl ⟨rfl, rfl⟩)
theorem wt_beside {r : List (Int × Int)} {p : Int × Int} (h : (∀ k, k < r.length → p.1 < (pt r k).1) ∨ (∀ k, k < r.length → (pt r k).1 < p.1) ∨ (∀ k, k < r.length → p.2 < (pt r k).2) ∨ (∀ k, k < r.length → (pt r k).2 < p.2)) : wt (pt r) r.length p = 0 := by
  have := beside h
  unfold wt
  rw [if_pos this.1, if_pos this.2]
/-- The sum over a box with a margin is that over the square. -/
theorem sq_box {r : List (Int × Int)} {lx ly hx hy : Int} (h : BoxI r r.length lx ly hx hy) : sq 64 (wt (pt r) r.length) = sumI (fun x => sumI (fun y => wt (pt r) r.length (x, y)) (ly - 1) (hy - ly + 3).toNat) (lx - 1) (hx - lx + 3).toNat := by
  have hb := h.b
  have ho := h.o
  have col : ∀ x : Int, sumI (fun y => wt (pt r) r.length (x, y)) (-(64 : Nat)) (2 * 64 + 1) = sumI (fun y => wt (pt r) r.length (x, y)) (ly - 1) (hy - ly + 3).toNat := by
    intro x
    obtain ⟨a, ha⟩ : ∃ a : Nat, ly - 1 = -(64 : Nat) + (a : Int) := ⟨(ly + 63).toNat, by omega⟩
    obtain ⟨c, hc⟩ : ∃ c : Nat, 2 * 64 + 1 = a + ((hy - ly + 3).toNat + c) := ⟨2 * 64 + 1 - a - (hy - ly + 3).toNat, by omega⟩
    rw [hc, sumI_split, sumI_split, ← ha, sumI_zero, sumI_zero (n := c)]
    · omega
    · intro y h1 h2
      exact wt_beside (.inr (.inr (.inr fun k hk => by have := h.i k hk; simp only; omega)))
    · intro y h1 h2
      exact wt_beside (.inr (.inr (.inl fun k hk => by have := h.i k hk; simp only; omega)))
  unfold sq
  obtain ⟨a, ha⟩ : ∃ a : Nat, lx - 1 = -(64 : Nat) + (a : Int) := ⟨(lx + 63).toNat, by omega⟩
  obtain ⟨c, hc⟩ : ∃ c : Nat, 2 * 64 + 1 = a + ((hx - lx + 3).toNat + c) := ⟨2 * 64 + 1 - a - (hx - lx + 3).toNat, by omega⟩
  rw [hc, sumI_split, sumI_split, ← ha, sumI_zero, sumI_zero (n := c)]
  · have e : sumI (fun x => sumI (fun y => wt (pt r) r.length (x, y)) (-(64 : Nat)) (2 * 64 + 1)) (lx - 1) (hx - lx + 3).toNat = sumI (fun x => sumI (fun y => wt (pt r) r.length (x, y)) (ly - 1) (hy - ly + 3).toNat) (lx - 1) (hx - lx + 3).toNat := sumI_congr fun x _ _ => col x
    rw [← hc]
    omega
  · intro x h1 h2
    exact sumI_zero fun y _ _ => wt_beside (.inr (.inl fun k hk => by have := h.i k hk; simp only; omega))
  · intro x h1 h2
    exact sumI_zero fun y _ _ => wt_beside (.inl fun k hk => by have := h.i k hk; simp only; omega)
theorem sumI_succ (f : Int → Int) (a : Int) (n : Nat) : sumI f a (n + 1) = sumI f a n + f (a + n) := rfl

set_option linter.unusedSimpArgs false in
set_option linter.unusedVariables false in
set_option maxRecDepth 100000 in
set_option maxHeartbeats 16000000 in
theorem pick_any (v : Value) (xs : List Int) (wz : World) (R : RowN wz v xs) :
    Calls Try.prog 9 #[v] wz fun e w' => e = .returned (.bool true) ∧ Below wz.heap.size wz w' := by
  have HRN := Lib.hid R
  clear R
  go_enter Try.func9, Try.ntmps9
  go_wp2_with fail
  refine (sane_any wz).mono ?_
  rintro e w1 ⟨rfl, g1⟩
  go_wp2_with fail
  refine (made_ring v xs w1 (HRN.out.later g1)).mono ?_
  rintro e w ⟨u, r, rfl, hO, hM, g2⟩
  have HG := Lib.hid (Grows.then g1 g2)
  obtain ⟨m, t, X, L, H, hm⟩ := hM.m
  have HK := Lib.hid hm.ok
  have HB := Lib.hid hm.bdd
  have HPK := Lib.hid hm.pick
  have HAP := Lib.hid (show 0 < area (pt r) r.length by rw [hm.area]; exact hm.M.area_pos)
  have hlen : 4 ≤ r.length ∧ r.length ≤ 10 := by have := hm.len; have := hm.M.two; have := hm.m5; omega
  have HAR := Lib.hid (show areaP r = area (pt r) r.length from area_plain (fun k hk => by have := hm.bdd k hk; omega) (by omega))
  have hR := hO.row
  clear hM hm hO g1 g2
  have hv0 := hR
  obtain ⟨a, cap, rfl, hc1, hc2, -⟩ := hv0
  obtain ⟨b, o, rfl, -⟩ := hR.spot (by omega)
  have hp : r[0]? = some ((pt r 0).1, (pt r 0).2) := at_pt (by omega)
  have hb0 := HB.out 0 (by omega)
  have HBX := Lib.hid (show BoxI r 0 (pt r 0).1 (pt r 0).2 (pt r 0).1 (pt r 0).2 from ⟨fun i hi => by omega, by omega, by omega⟩)
  have HP := Lib.hid hp
  have HV := Lib.hid hR
  clear hp hb0 hR
  generalize (pt r 0).1 = x0 at *
  generalize (pt r 0).2 = y0 at *
  obtain ⟨N, hN⟩ : ∃ N, r.length = N := ⟨_, rfl⟩
  have HN := Lib.hid hN
  rw [hN] at hlen hc1 HV ⊢
  clear hN
  have b0 : (0 : Int) < N := by omega
  have b4 : ¬ N = 0 := by omega
  have b5 : 0 < N := by omega
  have C0 : Has w [] w := Has.nil (Below.refl _ _)
  go_upto_region 3 with fail
  have X0 := C0.drew
  have ms1 := Lib.hid (show ∀ w', Has w [] w' → (w'.cell? ⟨b, o, none⟩ = some (.int .i64 x0) ∧ w'.cell? ⟨b, o + 1, none⟩ = some (.int .i64 y0)) ∧ Has w [] w' from fun w' h => by
    have hRb := HV.out.later h.low
    exact ⟨⟨(RowP.cells0 hRb HP.out).1, (RowP.cells0 hRb HP.out).2⟩, h⟩)
  refine wp_region_held_drew (S := (fun w' => (w'.cell? ⟨b, o, none⟩ = some (.int .i64 x0) ∧ w'.cell? ⟨b, o + 1, none⟩ = some (.int .i64 y0)) ∧ Has w [] w')) (by kernel_rfl) (ms1.out _ X0) (fun hHeld => ?_)
  refine wpAnyT_begin [0, 1, 2, 3, 4, 5] (by kernel_rfl) (by kernel_rfl) ?_
  refine wpAnyT_take (oi := ⟨some 17, Op.move (Operand.tmp 4), 25, _, _, none⟩) (v := .slice (some ⟨b, o, none⟩) N cap) rfl (fun _ _ _ h => h) (by rfl) (by assumption) (fun wS hSw => ?_) ?_
  · (try dsimp only at hSw); go_simp
  simp only [Act.put, List.setIfInBounds_toArray, List.set_cons_zero, List.set_cons_succ]
  refine wpAnyT_take (oi := ⟨some 18, Op.indexAddr 25 (Operand.tmp 17) (Operand.const (Value.int IntKind.i64 0)), 0, _, _, none⟩) (v := .pointer (some ⟨b, o, none⟩)) rfl (fun _ _ _ h => h) (by rfl) (by assumption) (fun wS hSw => ?_) ?_
  · (try dsimp only at hSw); go_simp
  simp only [Act.put, List.setIfInBounds_toArray, List.set_cons_zero, List.set_cons_succ]
  refine wpAnyT_take (oi := ⟨some 19, Op.load 24 (Operand.tmp 18), 24, _, _, none⟩) (v := .agg #[.int .i64 x0, .int .i64 y0]) rfl (fun _ _ _ h => h) (by rfl) (by assumption) (fun wS hSw => ?_) ?_
  · (try dsimp only at hSw); go_simp
  simp only [Act.put, List.setIfInBounds_toArray, List.set_cons_zero, List.set_cons_succ]
  refine wpAnyT_take (oi := ⟨some 20, Op.move (Operand.tmp 4), 25, _, _, none⟩) (v := .slice (some ⟨b, o, none⟩) N cap) rfl (fun _ _ _ h => h) (by rfl) (by assumption) (fun wS hSw => ?_) ?_
  · (try dsimp only at hSw); go_simp
  simp only [Act.put, List.setIfInBounds_toArray, List.set_cons_zero, List.set_cons_succ]
  refine wpAnyT_take (oi := ⟨some 21, Op.indexAddr 25 (Operand.tmp 20) (Operand.const (Value.int IntKind.i64 0)), 0, _, _, none⟩) (v := .pointer (some ⟨b, o, none⟩)) rfl (fun _ _ _ h => h) (by rfl) (by assumption) (fun wS hSw => ?_) ?_
  · (try dsimp only at hSw); go_simp
  simp only [Act.put, List.setIfInBounds_toArray, List.set_cons_zero, List.set_cons_succ]
  refine wpAnyT_take (oi := ⟨some 22, Op.load 24 (Operand.tmp 21), 24, _, _, none⟩) (v := .agg #[.int .i64 x0, .int .i64 y0]) rfl (fun _ _ _ h => h) (by rfl) (by assumption) (fun wS hSw => ?_) ?_
  · (try dsimp only at hSw); go_simp
  simp only [Act.put, List.setIfInBounds_toArray, List.set_cons_zero, List.set_cons_succ]
  refine wpAnyT_end ?_
  refine wpAnyH_listed #[true, true, true, true, true, true, false, false, false, false] (by kernel_rfl) ?_
  refine any_ind (X := Sta) (n := fun sx => (0 - sx.n) + (if sx.a.isSome then 0 else 1) + (if sx.b.isSome then 0 else 1)) (l := fun sx => #[true, true, true, true, true, true, sx.a.isSome, sx.b.isSome, false, false]) (u := fun sx t => (putp 5 sx.a (putp 6 sx.b t))) (I := fun sx w' => sx.n ≤ 0 ∧ Has w (bl [.int .i64 0, .int .i64 0] sx.a (bl [.int .i64 0, .int .i64 0] sx.b [])) w') (m := 2) ⟨none, none, none, 0⟩ (by kernel_rfl) (by kernel_rfl) (by kernel_rfl) ⟨Nat.zero_le _, X0⟩ ?_ ?_
  · rintro k ih ⟨pa, pb, pc, c⟩ w2 hk ⟨hc, hH⟩
    clear hHeld
    obtain rfl : c = 0 := by simp only at hc; omega
    · cases pa with
      | none =>
        cases pb with
        | none =>
          simp only [Option.isSome, Bool.false_eq_true, if_false, if_true] at hk
          simp only [putc, putp, Act.put, decide_eq_true_eq, decide_true, decide_false, Nat.le_refl, Nat.reduceLeDiff, List.setIfInBounds_toArray, List.set_cons_zero, List.set_cons_succ]
          refine wpAnyH_listed #[true, true, true, true, true, true, false, false, false, false] (by kernel_rfl) ?_
          refine wpAnyH_ready (rs := [6, 7]) (by kernel_rfl) (by simp) ?_
          refine AllReadyH.cons (o := ⟨some 5, Op.alloc 24, 0, _, _, none⟩) rfl (fun K hK => ?_) (?_)
          · go_simp
            have hC := (hH.push [.int .i64 0, .int .i64 0] 24)
            change Has w _ (w2.alloc (.cells #[.int .i64 0, .int .i64 0] 24)) at hC
            generalize w2.alloc (.cells #[.int .i64 0, .int .i64 0] 24) = W at *
            generalize w2.heap.size = P at *
            have hC' : Has w ([(P, [.int .i64 0, .int .i64 0])] ++ []) W := hC
            refine hK.out _ _ (ms1.out _ (hC.tail)) (fun _ => ?_)
            exact wpAnyH_cast rfl (by kernel_rfl) (by kernel_rfl) (ih ⟨some P, none, pc, 0⟩ _ (by simp only [Option.isSome, Bool.false_eq_true, if_false, if_true]; omega) ⟨by simp, hC⟩)
          refine AllReadyH.cons (o := ⟨some 6, Op.alloc 24, 0, _, _, none⟩) rfl (fun K hK => ?_) (AllReadyH.nil)
          · go_simp
            have hC := (hH.push [.int .i64 0, .int .i64 0] 24)
            change Has w _ (w2.alloc (.cells #[.int .i64 0, .int .i64 0] 24)) at hC
            generalize w2.alloc (.cells #[.int .i64 0, .int .i64 0] 24) = W at *
            generalize w2.heap.size = Q at *
            have hC' : Has w ([(Q, [.int .i64 0, .int .i64 0])] ++ []) W := hC
            refine hK.out _ _ (ms1.out _ (hC.tail)) (fun _ => ?_)
            exact wpAnyH_cast rfl (by kernel_rfl) (by kernel_rfl) (ih ⟨none, some Q, pc, 0⟩ _ (by simp only [Option.isSome, Bool.false_eq_true, if_false, if_true]; omega) ⟨by simp, hC⟩)
        | some Q =>
          simp only [Option.isSome, Bool.false_eq_true, if_false, if_true] at hk
          simp only [putc, putp, Act.put, decide_eq_true_eq, decide_true, decide_false, Nat.le_refl, Nat.reduceLeDiff, List.setIfInBounds_toArray, List.set_cons_zero, List.set_cons_succ]
          refine wpAnyH_listed #[true, true, true, true, true, true, false, true, false, false] (by kernel_rfl) ?_
          refine wpAnyH_ready (rs := [6]) (by kernel_rfl) (by simp) ?_
          refine AllReadyH.cons (o := ⟨some 5, Op.alloc 24, 0, _, _, none⟩) rfl (fun K hK => ?_) (AllReadyH.nil)
          · go_simp
            have hC := (hH.push [.int .i64 0, .int .i64 0] 24)
            change Has w _ (w2.alloc (.cells #[.int .i64 0, .int .i64 0] 24)) at hC
            generalize w2.alloc (.cells #[.int .i64 0, .int .i64 0] 24) = W at *
            generalize w2.heap.size = P at *
            have hC' : Has w ([(P, [.int .i64 0, .int .i64 0]), (Q, [.int .i64 0, .int .i64 0])] ++ []) W := hC
            refine hK.out _ _ (ms1.out _ (hC.tail.tail)) (fun _ => ?_)
            exact wpAnyH_cast rfl (by kernel_rfl) (by kernel_rfl) (ih ⟨some P, some Q, pc, 0⟩ _ (by simp only [Option.isSome, Bool.false_eq_true, if_false, if_true]; omega) ⟨by simp, hC⟩)
      | some P =>
        cases pb with
        | none =>
          simp only [Option.isSome, Bool.false_eq_true, if_false, if_true] at hk
          simp only [putc, putp, Act.put, decide_eq_true_eq, decide_true, decide_false, Nat.le_refl, Nat.reduceLeDiff, List.setIfInBounds_toArray, List.set_cons_zero, List.set_cons_succ]
          refine wpAnyH_listed #[true, true, true, true, true, true, true, false, false, false] (by kernel_rfl) ?_
          refine wpAnyH_ready (rs := [7]) (by kernel_rfl) (by simp) ?_
          refine AllReadyH.cons (o := ⟨some 6, Op.alloc 24, 0, _, _, none⟩) rfl (fun K hK => ?_) (AllReadyH.nil)
          · go_simp
            have hC := (hH.push [.int .i64 0, .int .i64 0] 24).swap
            change Has w _ (w2.alloc (.cells #[.int .i64 0, .int .i64 0] 24)) at hC
            generalize w2.alloc (.cells #[.int .i64 0, .int .i64 0] 24) = W at *
            generalize w2.heap.size = Q at *
            have hC' : Has w ([(P, [.int .i64 0, .int .i64 0]), (Q, [.int .i64 0, .int .i64 0])] ++ []) W := hC
            refine hK.out _ _ (ms1.out _ (hC.tail.tail)) (fun _ => ?_)
            exact wpAnyH_cast rfl (by kernel_rfl) (by kernel_rfl) (ih ⟨some P, some Q, pc, 0⟩ _ (by simp only [Option.isSome, Bool.false_eq_true, if_false, if_true]; omega) ⟨by simp, hC⟩)
        | some Q =>
          exact absurd hk (by simp)
  rintro ⟨pa, pb, pc, c⟩ w2 hk ⟨hc, hH⟩
  obtain ⟨P, Q, rfl, rfl, rfl⟩ : ∃ P Q, pa = some P ∧ pb = some Q ∧ c = 0 := by
    cases pa <;> cases pb <;> simp only [Option.isSome, Bool.false_eq_true, if_false, if_true] at hk <;> simp only at hc <;> first | exact ⟨_, _, rfl, rfl, by omega⟩ | omega
  simp only [putc, putp, Act.put, decide_eq_true_eq, decide_true, decide_false, Nat.le_refl, Nat.reduceLeDiff, List.setIfInBounds_toArray, List.set_cons_zero, List.set_cons_succ]
  have XA := hH
  change Has w [(P, [.int .i64 0, .int .i64 0]), (Q, [.int .i64 0, .int .i64 0])] w2 at XA
  clear hH hk hc
  refine wpAnyH_listed #[true, true, true, true, true, true, true, true, false, false] (by kernel_rfl) ?_
  refine wpAnyH_ready (rs := [8]) (by kernel_rfl) (by simp) ?_
  refine AllReadyH.cons (o := ⟨none, Op.store 24 (Operand.tmp 5) (Operand.tmp 19), 0, _, _, none⟩) rfl (fun K hK => ?_) AllReadyH.nil
  have k0 := XA.fact (.head _) (i := 0) rfl
  have k1 := XA.fact (.head _) (i := 1) rfl
  have f0 := XA.free (.head _) (i := 0) rfl
  have f1 := XA.free (.head _) (i := 1) rfl
  go_simp
  have XA0 : Has w [(P, [.int .i64 x0, .int .i64 y0]), (Q, [.int .i64 0, .int .i64 0])] (World.setCell (World.setCell w2 ⟨P, 0, none⟩ (.int .i64 x0)) ⟨P, 1, none⟩ (.int .i64 y0)) := (XA.set2 (.int .i64 x0) (.int .i64 y0))
  generalize (World.setCell (World.setCell w2 ⟨P, 0, none⟩ (.int .i64 x0)) ⟨P, 1, none⟩ (.int .i64 y0)) = wA0 at *
  clear k0 f0 k1 f1 XA
  clear hHeld
  refine hK.out _ _ (ms1.out _ XA0.tail.tail) (fun hHeld => ?_)
  clear hK K
  try simp only [List.setIfInBounds_toArray, List.set_cons_zero, List.set_cons_succ]
  refine wpAnyH_listed #[true, true, true, true, true, true, true, true, true, false] (by kernel_rfl) ?_
  refine wpAnyH_ready (rs := [9]) (by kernel_rfl) (by simp) ?_
  refine AllReadyH.cons (o := ⟨none, Op.store 24 (Operand.tmp 6) (Operand.tmp 22), 0, _, _, none⟩) rfl (fun K hK => ?_) AllReadyH.nil
  have k0 := XA0.tail.fact (.head _) (i := 0) rfl
  have k1 := XA0.tail.fact (.head _) (i := 1) rfl
  have f0 := XA0.tail.free (.head _) (i := 0) rfl
  have f1 := XA0.tail.free (.head _) (i := 1) rfl
  go_simp
  have X1 : Has w [(P, [.int .i64 x0, .int .i64 y0]), (Q, [.int .i64 x0, .int .i64 y0])] (World.setCell (World.setCell wA0 ⟨Q, 0, none⟩ (.int .i64 x0)) ⟨Q, 1, none⟩ (.int .i64 y0)) := (XA0.swap.set2 (.int .i64 x0) (.int .i64 y0)).swap
  generalize (World.setCell (World.setCell wA0 ⟨Q, 0, none⟩ (.int .i64 x0)) ⟨Q, 1, none⟩ (.int .i64 y0)) = w3 at *
  clear k0 f0 k1 f1 XA0
  clear hHeld
  refine hK.out _ _ (ms1.out _ X1.tail.tail) (fun hHeld => ?_)
  clear hK K
  try simp only [List.setIfInBounds_toArray, List.set_cons_zero, List.set_cons_succ]
  refine wpAnyH_listed #[true, true, true, true, true, true, true, true, true, true] (by kernel_rfl) ?_
  refine wpAnyH_done (by kernel_rfl) ?_ _
  try clear hHeld
  clear X0 ms1 C0
  go_wp2_with fail
  have C1 := X1.swap
  go_loopw [25] (fun i wr => ∃ (k : Nat) (lx ly hx hy : Int), k ≤ N ∧ i = .int .i64 k ∧ Hid (BoxI r k lx ly hx hy) ∧ Has w [(Q, [.int .i64 hx, .int .i64 hy]), (P, [.int .i64 lx, .int .i64 ly])] wr) (fun i _ => N - (RowKit.intOf i).toNat)
  case atStart => exact ⟨0, x0, y0, x0, y0, Nat.zero_le _, rfl, HBX, C1⟩
  case round =>
    clear X1 C1 HBX
    obtain ⟨k, lx, ly, hx, hy, hk, rfl, HX, hI⟩ := hrel
    by_cases hlt : k < N
    · have b1 : (k : Int) < N := by omega
      have b2 : (0 : Int) ≤ k := by omega
      have ks : IntKind.i64.wrap ((k : Int) + 1) = ((k + 1 : Nat) : Int) := by rw [IntWalk.i64_in _ (by omega)]; rfl
      have hp : r[k]? = some ((pt r k).1, (pt r k).2) := at_pt (by rw [HN.out]; exact hlt)
      have hbk := HB.out k (by rw [HN.out]; exact hlt)
      have hbx := HX.out.b
      obtain ⟨c0, c1⟩ := (HV.out.later hI.low).cells hp
      have HPT := Lib.hid (show pt r k = ((pt r k).1, (pt r k).2) from rfl)
      generalize (pt r k).1 = x1 at *
      generalize (pt r k).2 = y1 at *
      have C2 := hI.push [.int .i64 x1, .int .i64 y1] 24
      change Has w _ (wr.alloc (.cells #[.int .i64 x1, .int .i64 y1] 24)) at C2
      obtain ⟨k0, k1⟩ := C2.pt
      obtain ⟨k2, k3⟩ := C2.tail.pt
      obtain ⟨k4, k5⟩ := C2.tail.tail.pt
      clear hp
      go_wp2_with fail
      all_goals
        generalize wr.alloc (.cells #[.int .i64 x1, .int .i64 y1] 24) = w4 at *
        generalize wr.heap.size = T at *
        refine (at_ex _ _ _).mono ?_
        rintro e w5 ⟨A, B, hA, hB, rfl, g5⟩
        have C3 := C2.later g5
        clear k0 k1 k2 k3 k4 k5 c0 c1 C2 hI g5
        have C4 := C3.third.swap
        obtain ⟨k2, k3⟩ := C3.tail.tail.pt
        obtain ⟨f2, f3⟩ := C3.tail.tail.ptf
        go_upto_region 8 with fail
        have C5 := (C3.third.set2 (.int .i64 A) (.int .i64 B))
        generalize (w5.setCell ⟨P, 0, none⟩ (.int .i64 A)).setCell ⟨P, 1, none⟩ (.int .i64 B) = w6 at *
        clear k2 k3 f2 f3 C3 C4
        obtain ⟨k0, k1⟩ := C5.tail.pt
        obtain ⟨k2, k3⟩ := C5.tail.tail.pt
        go_wp2_with fail
      all_goals
        refine (at_ex _ _ _).mono ?_
        rintro e w7 ⟨A2, B2, hA2, hB2, rfl, g7⟩
        have C7 := C5.later g7
        clear k0 k1 k2 k3 C5 g7
        obtain ⟨k2, k3⟩ := C7.tail.tail.pt
        obtain ⟨f2, f3⟩ := C7.tail.tail.ptf
        go_upto_region 9 with fail
        have C8 := (C7.third.set2 (.int .i64 A2) (.int .i64 B2))
        generalize (w7.setCell ⟨Q, 0, none⟩ (.int .i64 A2)).setCell ⟨Q, 1, none⟩ (.int .i64 B2) = w8 at *
        clear k2 k3 f2 f3 C7
        go_wp2_with fail
        go_roundw
        case rel => exact ⟨k + 1, A, B, A2, B2, by omega, by go_num, Lib.hid (HX.out.to HPT.out (by omega)), C8.third.tail⟩
        case measure => simp [RowKit.intOf]; omega
    · obtain rfl : k = N := by omega
      clear hk hlt b0 b4 b5
      have hbx := HX.out.b
      have hbo := HX.out.o
      obtain ⟨k0, k1⟩ := hI.pt
      obtain ⟨k2, k3⟩ := hI.tail.pt
      have wl : IntKind.i64.wrap (lx - 1) = lx - 1 := IntWalk.i64_in _ (by omega)
      have wl2 : IntKind.i64.wrap (ly - 1) = ly - 1 := IntWalk.i64_in _ (by omega)
      have wh : IntKind.i64.wrap (hx + 1) = hx + 1 := IntWalk.i64_in _ (by omega)
      have wh2 : IntKind.i64.wrap (hy + 1) = hy + 1 := IntWalk.i64_in _ (by omega)
      have HSQ := Lib.hid (sq_box (by rw [HN.out]; exact HX.out))
      have HWT := Lib.hid (fun (x y : Int) (h : (-100 ≤ x ∧ x ≤ 100) ∧ (-100 ≤ y ∧ y ≤ 100)) => wt_ins (p := (x, y)) HK.out (in_of (B := 100) (by omega) h))
      obtain ⟨F, hF⟩ : ∃ F : Int → Int → Int, (fun x y => wt (pt r) r.length (x, y)) = F := ⟨_, rfl⟩
      have HF := Lib.hid (fun x y => congrFun (congrFun hF x) y)
      obtain ⟨NY, hNY⟩ : ∃ NY : Nat, (hy - ly + 3).toNat = NY := ⟨_, rfl⟩
      obtain ⟨NX, hNX⟩ : ∃ NX : Nat, (hx - lx + 3).toNat = NX := ⟨_, rfl⟩
      have HTOT := Lib.hid (show sumI (fun x => sumI (fun y => F x y) (ly - 1) NY) (lx - 1) NX = area (pt r) r.length + 2 by
        rw [← HPK.out, HSQ.out, hNY, hNX, ← hF])
      have bNY : (NY : Int) = hy - ly + 3 := by omega
      have bNX : (NX : Int) = hx - lx + 3 := by omega
      clear hF hNY hNX
      have bF : ∀ x y : Int, (-100 ≤ x ∧ x ≤ 100) ∧ (-100 ≤ y ∧ y ≤ 100) → (insC r (x, y) = 1 ∧ F x y = 2) ∨ (insC r (x, y) = 0 ∧ F x y = 1) ∨ (insC r (x, y) = -1 ∧ F x y = 0) := by
        intro x y h
        have h1 := HWT.out x y h
        rw [ins_box (by simp only; omega) (by simp only; omega)]
        have h2 := HF.out x y
        rw [← h2]
        exact h1
      have BF := Lib.hid bF
      clear bF
      go_wp2_with fail
      go_loopw [11, 9, 10] (fun x i o wr => ∃ (j : Nat) (I O : Int), j ≤ NX ∧ x = .int .i64 (lx - 1 + j) ∧ i = .int .i64 I ∧ o = .int .i64 O ∧ (0 ≤ I ∧ I ≤ 100 * j) ∧ (0 ≤ O ∧ O ≤ 100 * j) ∧ Hid (2 * I + O = sumI (fun x => sumI (fun y => F x y) (ly - 1) NY) (lx - 1) j) ∧ Has w [(Q, [.int .i64 hx, .int .i64 hy]), (P, [.int .i64 lx, .int .i64 ly])] wr) (fun x _ _ _ => (hx + 3 - RowKit.intOf x).toNat)
      case atStart => exact ⟨0, 0, 0, Nat.zero_le _, by simp, rfl, rfl, by omega, by omega, Lib.hid (by simp [sumI, sumT]), hI⟩
      case round =>
        clear k0 k1 k2 k3 hI
        obtain ⟨j, I, O, hj, rfl, rfl, rfl, hI, hO, hS, C⟩ := hrel
        obtain ⟨k0, k1⟩ := C.pt
        obtain ⟨k2, k3⟩ := C.tail.pt
        by_cases hlt : lx - 1 + j ≤ hx + 1
        · have hb1 : decide (lx - 1 + j ≤ hx + 1) = true := decide_eq_true hlt
          have HLT := Lib.hid hlt
          have wx : IntKind.i64.wrap (lx - 1 + j + 1) = lx - 1 + ((j + 1 : Nat) : Int) := by rw [IntWalk.i64_in _ (by omega)]; omega
          have bx : -100 ≤ lx - 1 + (j : Int) ∧ lx - 1 + (j : Int) ≤ 100 := by omega
          go_wp2_with fail
          go_loopw [12, 9, 10] (fun y i o wr => ∃ (q : Nat) (I2 O2 : Int), q ≤ NY ∧ y = .int .i64 (ly - 1 + q) ∧ i = .int .i64 I2 ∧ o = .int .i64 O2 ∧ (0 ≤ I2 ∧ I2 ≤ I + q) ∧ (0 ≤ O2 ∧ O2 ≤ O + q) ∧ Hid (2 * I2 + O2 = 2 * I + O + sumI (fun y => F (lx - 1 + j) y) (ly - 1) q) ∧ Has w [(Q, [.int .i64 hx, .int .i64 hy]), (P, [.int .i64 lx, .int .i64 ly])] wr) (fun y _ _ _ => (hy + 3 - RowKit.intOf y).toNat)
          case atStart => exact ⟨0, I, O, Nat.zero_le _, by simp, rfl, rfl, by omega, by omega, Lib.hid (by simp [sumI, sumT]), C⟩
          case round =>
            clear k0 k1 k2 k3 C
            obtain ⟨q, I2, O2, hq, rfl, rfl, rfl, hI2, hO2, hS2, C⟩ := hrel
            obtain ⟨k0, k1⟩ := C.pt
            obtain ⟨k2, k3⟩ := C.tail.pt
            by_cases hlt2 : ly - 1 + q ≤ hy + 1
            · have hb2 : decide (ly - 1 + q ≤ hy + 1) = true := decide_eq_true hlt2
              have wy : IntKind.i64.wrap (ly - 1 + q + 1) = ly - 1 + ((q + 1 : Nat) : Int) := by rw [IntWalk.i64_in _ (by omega)]; omega
              have wI : IntKind.i64.wrap (I2 + 1) = I2 + 1 := IntWalk.i64_in _ (by omega)
              have wO : IntKind.i64.wrap (O2 + 1) = O2 + 1 := IntWalk.i64_in _ (by omega)
              have hF3 := BF.out (lx - 1 + j) (ly - 1 + q) (by omega)
              have HSN := Lib.hid (sumI_succ (fun y => F (lx - 1 + j) y) (ly - 1) q)
              go_wp2_with fail
              refine (Has.call C (at_any _ _ _)).mono ?_
              rintro e w5 ⟨rfl, C5⟩
              clear k0 k1 k2 k3 C
              go_wp2_with fail
              rcases hF3 with ⟨hi3, hw3⟩ | ⟨hi3, hw3⟩ | ⟨hi3, hw3⟩
              · have HI3 := Lib.hid hi3
                have HW3 := Lib.hid hw3
                clear hi3 hw3
                refine (Has.call C5 (inside_is _ r _ _ _ (HV.out.later C5.low) _ HI3.out)).mono ?_
                rintro e w6 ⟨rfl, C6⟩
                clear C5
                go_wp2_with fail
                go_roundw
                case rel => exact ⟨q + 1, I2 + 1, O2, by omega, rfl, rfl, rfl, by omega, by omega, Lib.hid (by rw [HSN.out]; have := hS2.out; have := HW3.out; (try simp only); omega), C6⟩
                case measure => simp [RowKit.intOf]; omega
              · have HI3 := Lib.hid hi3
                have HW3 := Lib.hid hw3
                clear hi3 hw3
                refine (Has.call C5 (inside_is _ r _ _ _ (HV.out.later C5.low) _ HI3.out)).mono ?_
                rintro e w6 ⟨rfl, C6⟩
                clear C5
                go_wp2_with fail
                go_roundw
                case rel => exact ⟨q + 1, I2, O2 + 1, by omega, rfl, rfl, rfl, by omega, by omega, Lib.hid (by rw [HSN.out]; have := hS2.out; have := HW3.out; (try simp only); omega), C6⟩
                case measure => simp [RowKit.intOf]; omega
              · have HI3 := Lib.hid hi3
                have HW3 := Lib.hid hw3
                clear hi3 hw3
                refine (Has.call C5 (inside_is _ r _ _ _ (HV.out.later C5.low) _ HI3.out)).mono ?_
                rintro e w6 ⟨rfl, C6⟩
                clear C5
                go_wp2_with fail
                go_roundw
                case rel => exact ⟨q + 1, I2, O2, by omega, rfl, rfl, rfl, by omega, by omega, Lib.hid (by rw [HSN.out]; have := hS2.out; have := HW3.out; (try simp only); omega), C6⟩
                case measure => simp [RowKit.intOf]; omega
            · obtain rfl : q = NY := by omega
              have HSN := Lib.hid (sumI_succ (fun x => sumI (fun y => F x y) (ly - 1) q) (lx - 1) j)
              go_wp2_with fail
              go_roundw
              case rel => exact ⟨j + 1, I2, O2, by omega, rfl, rfl, rfl, by omega, by omega, Lib.hid (by rw [HSN.out]; have := hS2.out; have := hS.out; (try simp only); omega), C⟩
              case measure => simp [RowKit.intOf]; have := HLT.out; omega
        · obtain rfl : j = NX := by omega
          obtain ⟨A, hA⟩ : ∃ A, area (pt r) r.length = A := ⟨_, rfl⟩
          have hApos : 0 < A := hA ▸ HAP.out
          have hA2 : 2 * I + O = A + 2 := by rw [hS.out, HTOT.out, hA]
          have HA := Lib.hid (show areaP r = A by rw [HAR.out, hA])
          clear hA
          have wn : IntKind.i64.wrap (-A) = -A := IntWalk.i64_in _ (by omega)
          have w2' : IntKind.i64.wrap (2 * I) = 2 * I := IntWalk.i64_in _ (by omega)
          have w3' : IntKind.i64.wrap (2 * I + O) = 2 * I + O := IntWalk.i64_in _ (by omega)
          have w4' : IntKind.i64.wrap (2 * I + O - 2) = A := by rw [IntWalk.i64_in _ (by omega)]; omega
          have hmn : ¬ A < -A := by omega
          have hmn2 : -A < A := by omega
          have hmn3 : -A ≤ A := by omega
          go_wp2_with fail
          refine (Has.call C (area_is _ r _ (HV.out.later C.low) _ HA.out)).mono ?_
          rintro e w5 ⟨rfl, C5⟩
          go_wp2_with fail
          go_ret
          exact ⟨rfl, HG.out.then C5.low⟩

end Go.Proofs.Ytmldgjhecoeldaa
