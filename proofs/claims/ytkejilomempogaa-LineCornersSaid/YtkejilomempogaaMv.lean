/- Draws: the next number of a list of numbers. Made lists: the points of a list of numbers. Lists cut short. Lists of points: turned and moved. -/
import Derived.Test.YtkejilomempogaaOw
import Derived.Test.YtkejilomempogaaRRv
import Derived.Test.YtkejilomempogaaSane
import Derived.Test.YtkejilomempogaaLaw
import Derived.Test.YtkejilomempogaaAny
namespace Go.Proofs.Ytkejilomempogaa
open Go.RowKit Go.Lib

/-- A slice of numbers. -/
def RowN (w : World) (v : Value) (xs : List Int) : Prop :=
  ∃ a cap, v = .slice a xs.length cap ∧ xs.length ≤ cap ∧ (cap : Int) ≤ 9223372036854775807 ∧ (xs = [] ∨ ∃ b o, a = some ⟨b, o, none⟩ ∧ ∀ i x, xs[i]? = some x → w.cell? ⟨b, o + i, none⟩ = some (.int .i64 x))
theorem RowN.later {w w' : World} {v : Value} {xs : List Int} (h : RowN w v xs) (g : Grows w w') : RowN w' v xs := by
  obtain ⟨a, cap, h1, h2, h3, h4⟩ := h
  refine ⟨a, cap, h1, h2, h3, h4.imp id ?_⟩
  rintro ⟨b, o, e, h⟩
  exact ⟨b, o, e, fun i x hx => (g.cell (World.block_lt_of_cell? w _ (h i x hx))).trans (h i x hx)⟩

/-- The heap is what it was but for block b, and may have grown. -/
def Oth (b : Nat) (w w' : World) : Prop := w.heap.size ≤ w'.heap.size ∧ ∀ k, k ≠ b → k < w.heap.size → w'.heap[k]? = w.heap[k]?
theorem Oth.refl (b : Nat) (w : World) : Oth b w w := ⟨Nat.le_refl _, fun _ _ _ => rfl⟩
theorem Oth.of {b : Nat} {w w' : World} (g : Grows w w') : Oth b w w' := ⟨g.size, fun k _ hk => g.block k hk⟩
theorem Oth.then {b : Nat} {w w' w'' : World} (h : Oth b w w') (g : Oth b w' w'') : Oth b w w'' := ⟨Nat.le_trans h.1 g.1, fun k hk hl => (g.2 k hk (Nat.lt_of_lt_of_le hl h.1)).trans (h.2 k hk hl)⟩
theorem Oth.set (b i : Nat) (w : World) (u : Value) : Oth b w (w.setCell ⟨b, i, none⟩ u) := ⟨Nat.le_of_eq (World.size_setCell ..).symm, fun k hk _ => Below.heap_setCell w ⟨b, i, none⟩ u k hk⟩
theorem Oth.own {b B : Nat} {w w' : World} {v : Value} {ps : List (Int × Int)} (h : Oth b w w') (hb : b < B) (ho : Own B w v ps) : Own B w' v ps := by
  refine ⟨ho.1, ?_⟩
  rcases ho.2 with h2 | ⟨k, cap, cur, h1, h2, h3, h4⟩
  · exact .inl h2
  · exact .inr ⟨k, cap, cur, h1, h2, (h.2 k (by omega) (Array.getElem?_eq_some_iff.1 h3).1).trans h3, h4⟩

set_option linter.unusedSimpArgs false in
set_option maxRecDepth 100000 in
set_option maxHeartbeats 4000000 in
theorem next_any {w0 w : World} {b : Nat} {bs : List (Nat × List Value)} {v : Value} {xs : List Int} {t : Int} (C : Has w0 ((b, [v, .int .i64 t]) :: bs) w) (R : RowN w0 v xs) (ht : 0 ≤ t) (m : Int) (hm : 1 ≤ m) (hm' : m ≤ 1000) :
    Calls Try.prog 34 #[.pointer (some ⟨b, 0, none⟩), .int .i64 m] w fun e w' => ∃ r t', e = .returned (.int .i64 r) ∧ 0 ≤ r ∧ r < m ∧ 0 ≤ t' ∧ Has w0 ((b, [v, .int .i64 t']) :: bs) w' ∧ Oth b w w' := by
  have R0 := R.later C.low
  obtain ⟨a, cap, rfl, h1, h2, -⟩ := R0
  obtain ⟨a', cap', e', -, -, h3⟩ := R
  simp only [Value.slice.injEq, true_and] at e'
  obtain ⟨rfl, rfl⟩ := e'
  have C1 := C.drew
  obtain ⟨c0, c1⟩ := C1.pt
  by_cases hlt : t < (xs.length : Int)
  · have hx : ∃ bb o, a = some ⟨bb, o, none⟩ ∧ ∀ i x, xs[i]? = some x → w0.cell? ⟨bb, o + i, none⟩ = some (.int .i64 x) := by
      rcases h3 with rfl | h3
      · simp at hlt; omega
      · exact h3
    obtain ⟨bb, o, rfl, hx⟩ := hx
    have b1 : decide (t ≥ (xs.length : Int)) = false := decide_eq_false (by omega)
    clear h3
    obtain ⟨y, hy⟩ : ∃ y, xs[t.toNat]? = some y := ⟨_, List.getElem?_eq_getElem (by omega)⟩
    have HC := Lib.hid (hx _ _ hy)
    generalize hn : xs.length = n at *
    have w1 : wrap64 (t + 1) = t + 1 := IntWalk.wrap64_in _ ⟨by omega, by omega⟩
    have w3' : IntKind.i64.wrap t = t := by rw [IntKind.wrap_i64]; omega
    have w2 : IntKind.i64.wrap (t + 1) = t + 1 := by rw [IntKind.wrap_i64]; omega
    clear hx hy
    have f1 := C1.free (.head _) (i := 1) rfl
    go_enter Try.func34, Try.ntmps34
    go_wp2_with fail
    go_region
    go_wp2_with fail
    have C2 := (C.set 1 (by simp) (.int .i64 (t + 1))).drew
    clear c0 c1 f1
    change Has w0 ((b, [.slice (some ⟨bb, o, none⟩) n cap, .int .i64 (t + 1)]) :: bs) ((w.setCell ⟨b, 1, none⟩ (.int .i64 (t + 1))).drew) at C2
    have C2 := C2.drew
    have O2 : Oth b w (w.setCell ⟨b, 1, none⟩ (.int .i64 (t + 1))).drew.drew := (Oth.set b 1 w _).then (Oth.of (((Below.refl _ _).drew).drew))
    have HS := Lib.hid (show ∀ w', Has w0 ((b, [.slice (some ⟨bb, o, none⟩) n cap, .int .i64 (t + 1)]) :: bs) w' → (w'.cell? ⟨b, 0, none⟩ = some (.slice (some ⟨bb, o, none⟩) n cap) ∧ w'.cell? ⟨b, 1, none⟩ = some (.int .i64 (t + 1)) ∧ w'.cell? ⟨bb, o + t.toNat, none⟩ = some (.int .i64 y)) ∧ Has w0 ((b, [.slice (some ⟨bb, o, none⟩) n cap, .int .i64 (t + 1)]) :: bs) w' from fun w' h => by
      exact ⟨⟨h.fact (.head _) (i := 0) rfl, h.fact (.head _) (i := 1) rfl, (h.low.cell (World.block_lt_of_cell? _ _ HC.out)).trans HC.out⟩, h⟩)
    refine wp_region_held_drew (S := (fun w' => (w'.cell? ⟨b, 0, none⟩ = some (.slice (some ⟨bb, o, none⟩) n cap) ∧ w'.cell? ⟨b, 1, none⟩ = some (.int .i64 (t + 1)) ∧ w'.cell? ⟨bb, o + t.toNat, none⟩ = some (.int .i64 y)) ∧ Has w0 ((b, [.slice (some ⟨bb, o, none⟩) n cap, .int .i64 (t + 1)]) :: bs) w')) (by kernel_rfl) (HS.out _ C2) (fun hHeld => ?_)
    refine wpAnyT_begin [0, 1, 2, 3, 4, 5, 6, 7, 8, 9, 10, 11] (by kernel_rfl) (by kernel_rfl) ?_
    refine wpAnyT_take (oi := ⟨some 22, Op.move (Operand.tmp 0), 54, _, _, none⟩) (v := .pointer (some ⟨b, 0, none⟩)) rfl (fun _ _ _ h => h) (by rfl) (by assumption) (fun wS hSw => ?_) ?_
    · (try dsimp only at hSw); go_simp
    simp only [Act.put, List.setIfInBounds_toArray, List.set_cons_zero, List.set_cons_succ]
    refine wpAnyT_take (oi := ⟨some 23, Op.nilCheck (Operand.tmp 22), 0, _, _, none⟩) (v := .pointer (some ⟨b, 0, none⟩)) rfl (fun _ _ _ h => h) (by rfl) (by assumption) (fun wS hSw => ?_) ?_
    · (try dsimp only at hSw); go_simp
    simp only [Act.put, List.setIfInBounds_toArray, List.set_cons_zero, List.set_cons_succ]
    refine wpAnyT_take (oi := ⟨some 24, Op.fieldAddr 56 (Operand.tmp 23) 0, 0, _, _, none⟩) (v := .pointer (some ⟨b, 0, none⟩)) rfl (fun _ _ _ h => h) (by rfl) (by assumption) (fun wS hSw => ?_) ?_
    · (try dsimp only at hSw); go_simp
    simp only [Act.put, List.setIfInBounds_toArray, List.set_cons_zero, List.set_cons_succ]
    refine wpAnyT_take (oi := ⟨some 25, Op.load 22 (Operand.tmp 24), 22, _, _, none⟩) (v := .slice (some ⟨bb, o, none⟩) n cap) rfl (fun _ _ _ h => h) (by rfl) (by assumption) (fun wS hSw => ?_) ?_
    · (try dsimp only at hSw); go_simp
    simp only [Act.put, List.setIfInBounds_toArray, List.set_cons_zero, List.set_cons_succ]
    refine wpAnyT_take (oi := ⟨some 26, Op.move (Operand.tmp 0), 54, _, _, none⟩) (v := .pointer (some ⟨b, 0, none⟩)) rfl (fun _ _ _ h => h) (by rfl) (by assumption) (fun wS hSw => ?_) ?_
    · (try dsimp only at hSw); go_simp
    simp only [Act.put, List.setIfInBounds_toArray, List.set_cons_zero, List.set_cons_succ]
    refine wpAnyT_take (oi := ⟨some 27, Op.nilCheck (Operand.tmp 26), 0, _, _, none⟩) (v := .pointer (some ⟨b, 0, none⟩)) rfl (fun _ _ _ h => h) (by rfl) (by assumption) (fun wS hSw => ?_) ?_
    · (try dsimp only at hSw); go_simp
    simp only [Act.put, List.setIfInBounds_toArray, List.set_cons_zero, List.set_cons_succ]
    refine wpAnyT_take (oi := ⟨some 28, Op.fieldAddr 56 (Operand.tmp 27) 1, 0, _, _, none⟩) (v := .pointer (some ⟨b, 1, none⟩)) rfl (fun _ _ _ h => h) (by rfl) (by assumption) (fun wS hSw => ?_) ?_
    · (try dsimp only at hSw); go_simp
    simp only [Act.put, List.setIfInBounds_toArray, List.set_cons_zero, List.set_cons_succ]
    refine wpAnyT_take (oi := ⟨some 29, Op.load 3 (Operand.tmp 28), 3, _, _, none⟩) (v := .int .i64 (t + 1)) rfl (fun _ _ _ h => h) (by rfl) (by assumption) (fun wS hSw => ?_) ?_
    · (try dsimp only at hSw); go_simp
    simp only [Act.put, List.setIfInBounds_toArray, List.set_cons_zero, List.set_cons_succ]
    refine wpAnyT_take (oi := ⟨some 30, Op.binOp BinOp.sub 3 (Operand.tmp 29) (Operand.const (Value.int IntKind.i64 1)) 3, 3, _, _, none⟩) (v := .int .i64 t) rfl (fun _ _ _ h => h) (by rfl) (by assumption) (fun wS hSw => ?_) ?_
    · (try dsimp only at hSw); go_simp
    simp only [Act.put, List.setIfInBounds_toArray, List.set_cons_zero, List.set_cons_succ]
    refine wpAnyT_take (oi := ⟨some 31, Op.indexAddr 22 (Operand.tmp 25) (Operand.tmp 30), 0, _, _, none⟩) (v := .pointer (some ⟨bb, o + t.toNat, none⟩)) rfl (fun _ _ _ h => h) (by rfl) (by assumption) (fun wS hSw => ?_) ?_
    · (try dsimp only at hSw); go_simp
    simp only [Act.put, List.setIfInBounds_toArray, List.set_cons_zero, List.set_cons_succ]
    refine wpAnyT_take (oi := ⟨some 32, Op.load 3 (Operand.tmp 31), 3, _, _, none⟩) (v := .int .i64 y) rfl (fun _ _ _ h => h) (by rfl) (by assumption) (fun wS hSw => ?_) ?_
    · (try dsimp only at hSw); go_simp
    simp only [Act.put, List.setIfInBounds_toArray, List.set_cons_zero, List.set_cons_succ]
    refine wpAnyT_take (oi := ⟨some 33, Op.move (Operand.tmp 1), 3, _, _, none⟩) (v := .int .i64 m) rfl (fun _ _ _ h => h) (by rfl) (by assumption) (fun wS hSw => ?_) ?_
    · (try dsimp only at hSw); go_simp
    simp only [Act.put, List.setIfInBounds_toArray, List.set_cons_zero, List.set_cons_succ]
    refine wpAnyT_end ?_
    refine wpAnyH_listed #[true, true, true, true, true, true, true, true, true, true, true, true, false, false] (by kernel_rfl) ?_
    refine wpAnyH_ready (rs := [12]) (by kernel_rfl) (by simp) ?_
    refine AllReadyH.cons (o := ⟨some 34, Op.call { callee := Callee.value (Operand.func 66), args := #[Operand.tmp 32, Operand.tmp 33], argTypes := #[3, 3] }, 3, _, _, none⟩) rfl (fun K hK => ?_) AllReadyH.nil
    go_simp
    go_at_call 66
    refine (show Calls Try.prog 66 #[.int .i64 y, .int .i64 m] _ fun e w' => e = .returned (.int .i64 (y % m)) ∧ (Has w0 ((b, [.slice (some ⟨bb, o, none⟩) n cap, .int .i64 (t + 1)]) :: bs) w' ∧ Oth b w w') from (mod_any y m _ hm (by omega)).mono (by rintro _ _ ⟨h1, rfl⟩; exact ⟨h1, C2, O2⟩)).mono ?_
    rintro e w3 ⟨rfl, C3⟩
    go_wp2_with fail
    clear hHeld
    refine hK.out _ _ (HS.out _ C3.1) (fun hHeld => ?_)
    clear hK K
    try simp only [List.setIfInBounds_toArray, List.set_cons_zero, List.set_cons_succ]
    refine wpAnyH_listed #[true, true, true, true, true, true, true, true, true, true, true, true, true, false] (by kernel_rfl) ?_
    refine wpAnyT_begin [13] (by kernel_rfl) (by kernel_rfl) ?_
    refine wpAnyT_take (oi := ⟨some 4, Op.assign (Operand.tmp 34), 3, _, _, none⟩) (v := .int .i64 (y % m)) rfl (fun _ _ _ h => h) (by rfl) (by assumption) (fun wS hSw => ?_) ?_
    · (try dsimp only at hSw); go_simp
    simp only [Act.put, List.setIfInBounds_toArray, List.set_cons_zero, List.set_cons_succ]
    refine wpAnyT_end ?_
    refine wpAnyH_listed #[true, true, true, true, true, true, true, true, true, true, true, true, true, true] (by kernel_rfl) ?_
    refine wpAnyH_done (by kernel_rfl) ?_ _
    clear hHeld
    go_wp2_with fail
    exact bodyPost_ret (v := .int .i64 (y % m)) (by simp [results, Try.results34, go_sem]) rfl ⟨y % m, t + 1, rfl, Int.emod_nonneg _ (by omega), Int.emod_lt_of_pos _ (by omega), by omega, C3.1, C3.2⟩
  · have b1 : decide (t ≥ (xs.length : Int)) = true := decide_eq_true (by omega)
    clear h3
    generalize hn : xs.length = n at *
    clear hn
    go_enter Try.func34, Try.ntmps34
    go_wp2_with fail
    go_region
    go_wp2_with fail
    exact bodyPost_ret (v := .int .i64 0) (by simp [results, Try.results34, go_sem]) rfl ⟨0, t, rfl, by omega, by omega, ht, C1, Oth.of ((Below.refl _ w).drew)⟩

end Go.Proofs.Ytkejilomempogaa

namespace Go.Proofs.Ytkejilomempogaa
open Go.RowKit Go.Lib

/-- Every point lies in the little square. -/
def Cs (ps : List (Int × Int)) : Prop := ∀ q, q ∈ ps → (0 ≤ q.1 ∧ q.1 ≤ 12) ∧ (0 ≤ q.2 ∧ q.2 ≤ 12)
theorem Cs.nil : Cs [] := fun _ h => by cases h
theorem Cs.snoc {ps : List (Int × Int)} {x y : Int} (h : Cs ps) (h1 : 0 ≤ x ∧ x ≤ 12) (h2 : 0 ≤ y ∧ y ≤ 12) : Cs (ps ++ [(x, y)]) := by
  intro q hq
  rcases List.mem_append.1 hq with hq | hq
  · exact h q hq
  · rw [List.mem_singleton.1 hq]; exact ⟨h1, h2⟩
theorem Cs.set {ps : List (Int × Int)} {p : Int × Int} (h : Cs ps) (i : Nat) (hp : p ∈ ps) : Cs (ps.set i p) := by
  intro q hq
  rcases List.mem_or_eq_of_mem_set hq with hq | rfl
  · exact h q hq
  · exact h _ hp

attribute [local go_sem] Oper.semAt_some
set_option linter.unusedSimpArgs false in
set_option maxRecDepth 100000 in
set_option maxHeartbeats 4000000 in
theorem made_any (v : Value) (xs : List Int) (w : World) (R : RowN w v xs) :
    Calls Try.prog 10 #[v] w fun e w' => ∃ u ps, e = .returned u ∧ RowP w' u ps ∧ (2 ≤ ps.length ∧ ps.length ≤ 6) ∧ Cs ps ∧ Below w.heap.size w w' := by
  have HR := Lib.hid R
  obtain ⟨a, cap, rfl, -⟩ := R
  generalize xs.length = n at *
  have C0 := (Has.nil (Below.refl w.heap.size w)).push [.slice a n cap, .int .i64 0] 56
  obtain ⟨D, hD⟩ : ∃ D, w.heap.size = D := ⟨_, rfl⟩
  go_enter Try.func10, Try.ntmps10
  go_wp2_with fail
  change Has w [(w.heap.size, [.slice a n cap, .int .i64 0])] (w.alloc (.cells #[.slice a n cap, .int .i64 0] 56)) at C0
  generalize w.alloc (.cells #[.slice a n cap, .int .i64 0] 56) = w1 at *
  generalize w.heap.size = D' at *
  subst hD
  refine (next_any C0 HR.out (by decide) 5 (by decide) (by decide)).mono ?_
  rintro e w2 ⟨r, t, rfl, hr0, hr1, ht, C1, -⟩
  go_wp2_with fail
  obtain ⟨M, hM⟩ : ∃ M : Nat, 2 + r = (M : Int) := ⟨(2 + r).toNat, by omega⟩
  rw [hM]
  have hM2 : 2 ≤ M ∧ M ≤ 6 := by omega
  clear C0 hM hr0 hr1
  refine (next_any C1 HR.out ht 13 (by decide) (by decide)).mono ?_
  rintro e w3 ⟨x, t2, rfl, hx0, hx1, ht2, C2, -⟩
  clear C1 ht
  go_wp2_with fail
  refine (next_any C2 HR.out ht2 13 (by decide) (by decide)).mono ?_
  rintro e w4 ⟨y, t3, rfl, hy0, hy1, ht3, C3, -⟩
  clear C2 ht2
  have C4 := C3.push [.int .i64 x, .int .i64 y] 36
  have hDP : D' < w4.heap.size := C3.lt0
  have hO0 := Own.nil (w4.heap.size + 1) (w4.alloc (.cells #[.int .i64 x, .int .i64 y] 36))
  have hwG : w.heap.size ≤ w4.heap.size + 1 := by have := C3.low.size; omega
  have hG1 : w4.heap.size + 1 ≤ (w4.alloc (.cells #[.int .i64 x, .int .i64 y] 36)).heap.size := by rw [size_alloc]; exact Nat.le_refl _
  go_wp2_with fail
  change Has w _ (w4.alloc (.cells #[.int .i64 x, .int .i64 y] 36)) at C4
  generalize w4.alloc (.cells #[.int .i64 x, .int .i64 y] 36) = w5 at *
  clear C3
  generalize w4.heap.size = G at *
  go_loopw [5, 7] (fun o i wr => ∃ (k : Nat) (t x y : Int) (ps : List (Int × Int)), k ≤ M ∧ i = .int .i64 k ∧ ps.length = k ∧ Hid (Cs ps) ∧ (0 ≤ x ∧ x ≤ 12) ∧ (0 ≤ y ∧ y ≤ 12) ∧ 0 ≤ t ∧ Has w [(G, [.int .i64 x, .int .i64 y]), (D', [.slice a n cap, .int .i64 t])] wr ∧ Own (G + 1) wr o ps) (fun _ i _ => M - (RowKit.intOf i).toNat)
  case atStart => exact ⟨0, t3, x, y, [], Nat.zero_le _, rfl, rfl, Lib.hid Cs.nil, by omega, by omega, ht3, C4, hO0⟩
  case round =>
    clear C4 hO0 ht3 hx0 hx1 hy0 hy1
    obtain ⟨k, t4, x, y, ps, hk, rfl, hlen, HC, hx, hy, ht4, hI, hO⟩ := hrel
    by_cases hlt : k < M
    · have b1 : (k : Int) < M := by omega
      obtain ⟨k0, k1⟩ := hI.pt
      obtain ⟨Cx, Rx⟩ := one_row hI rfl [(x, y)] (by simp)
      have hO1 := hO.later ((Below.refl _ wr).alloc (Nat.le_refl _) (.cells (flat [(x, y)]).toArray 36))
      change RowP (wr.alloc (.cells #[.int .i64 x, .int .i64 y] 36)) _ _ at Rx
      change Own _ (wr.alloc (.cells #[.int .i64 x, .int .i64 y] 36)) _ _ at hO1
      change Has w _ (wr.alloc (.cells #[.int .i64 x, .int .i64 y] 36)) at Cx
      have hGl := Cx.tail.lt0
      go_wp2_with (at_builtin; refine wpList_append_pts rfl _ _ rfl rfl hO1 rfl Rx (by simp; omega) (by omega) ?_)
      intro u3 w3 hO2 hG2
      have hI2 := Cx.tail.grown hO1 (by intro p hp; simp only [List.mem_cons, List.not_mem_nil, or_false] at hp; rcases hp with rfl | rfl <;> simp only <;> omega) hwG hG2
      clear hI hO k0 k1 Cx Rx hO1 hG2 hGl
      go_wp2_with fail
      refine (next_any hI2.swap HR.out ht4 2 (by decide) (by decide)).mono ?_
      rintro e w6 ⟨r, t5, rfl, hr0, hr1, ht4, C6, O6⟩
      have hO3 := O6.own (by omega) hO2
      clear hI2 hO2 O6
      rcases (show r = 0 ∨ r = 1 by omega) with rfl | rfl
      · have s1 : IntKind.i64.wrap (x + 1) = x + 1 := by rw [IntKind.wrap_i64]; omega
        go_wp2_with fail
        refine plain_Z 8 (fun W => W.cell? ⟨G, 0, none⟩ = some (.int .i64 x) ∧ W.cell? ⟨G, 1, none⟩ = some (.int .i64 y)) (by kernel_rfl) ?_
        have X0 := C6.drew
        have hO4 : Own (G + 1) w6.drew _ _ := hO3.later ((Below.refl _ _).drew)
        have hHeld : (fun W => W.cell? ⟨G, 0, none⟩ = some (.int .i64 x) ∧ W.cell? ⟨G, 1, none⟩ = some (.int .i64 y)) w6.drew := ⟨X0.tail.fact (.head _) (i := 0) rfl, X0.tail.fact (.head _) (i := 1) rfl⟩
        generalize w6.drew = w7 at *
        clear C6 hO3
        try dsimp only at hHeld
        refine wpAnyZ_take (i := 0) (oi := ⟨some 31, Op.fieldAddr 36 (Operand.tmp 6) 0, 0, _, _, none⟩) (oz := ⟨none, Op.store 3 (Operand.tmp 38) (Operand.tmp 37), 0, _, _, none⟩) (v := .pointer (some ⟨G, 0, none⟩)) rfl rfl (by kernel_rfl) (fun _ _ _ h => h) (by rfl) (by assumption) (fun wS hSw => ?_) ?_
        · (try dsimp only at hSw); go_simp
        simp only [Act.put, List.setIfInBounds_toArray, List.set_cons_zero, List.set_cons_succ]
        refine wpAnyZ_take (i := 1) (oi := ⟨some 32, Op.load 3 (Operand.tmp 31), 3, _, _, none⟩) (oz := ⟨none, Op.store 3 (Operand.tmp 38) (Operand.tmp 37), 0, _, _, none⟩) (v := .int .i64 x) rfl rfl (by kernel_rfl) (fun _ _ _ h => h) (by rfl) (by assumption) (fun wS hSw => ?_) ?_
        · (try dsimp only at hSw); go_simp
        simp only [Act.put, List.setIfInBounds_toArray, List.set_cons_zero, List.set_cons_succ]
        refine wpAnyZ_take (i := 2) (oi := ⟨some 33, Op.binOp BinOp.add 3 (Operand.tmp 32) (Operand.const (Value.int IntKind.i64 1)) 3, 3, _, _, none⟩) (oz := ⟨none, Op.store 3 (Operand.tmp 38) (Operand.tmp 37), 0, _, _, none⟩) (v := .int .i64 (x + 1)) rfl rfl (by kernel_rfl) (fun _ _ _ h => h) (by rfl) (by assumption) (fun wS hSw => ?_) ?_
        · (try dsimp only at hSw); go_simp
        simp only [Act.put, List.setIfInBounds_toArray, List.set_cons_zero, List.set_cons_succ]
        refine wpAnyZ_take (i := 3) (oi := ⟨some 34, Op.move (Operand.tmp 3), 54, _, _, none⟩) (oz := ⟨none, Op.store 3 (Operand.tmp 38) (Operand.tmp 37), 0, _, _, none⟩) (v := .pointer (some ⟨D', 0, none⟩)) rfl rfl (by kernel_rfl) (fun _ _ _ h => h) (by rfl) (by assumption) (fun wS hSw => ?_) ?_
        · (try dsimp only at hSw); go_simp
        simp only [Act.put, List.setIfInBounds_toArray, List.set_cons_zero, List.set_cons_succ]
        refine wpAnyZ_listed #[true, true, true, true, false, false, false, false, false] (by kernel_rfl) ?_
        refine wpAnyZ_one (i := 4) (o := ⟨some 35, Op.call { callee := Callee.value (Operand.func 34), args := #[Operand.tmp 34, Operand.const (Value.int IntKind.i64 12)], argTypes := #[54, 3] }, 3, _, _, none⟩) (by kernel_rfl) rfl (fun K hK => ?_)
        go_simp
        go_at_call 34
        refine (next_any X0 HR.out ht4 12 (by decide) (by decide)).mono ?_
        rintro e w8 ⟨q, t5, rfl, hq0, hq1, ht5, X1, O7⟩
        go_wp2_with fail
        try clear hHeld
        refine hK.out _ _ (⟨X1.tail.fact (.head _) (i := 0) rfl, X1.tail.fact (.head _) (i := 1) rfl⟩) (fun hHeld => ?_)
        clear hK K
        try simp only [List.setIfInBounds_toArray, List.set_cons_zero, List.set_cons_succ]
        refine wpAnyZ_listed #[true, true, true, true, true, false, false, false, false] (by kernel_rfl) ?_
        have s2 : IntKind.i64.wrap (x + 1 + q) = x + 1 + q := by rw [IntKind.wrap_i64]; omega
        refine wpAnyZ_take (i := 5) (oi := ⟨some 36, Op.binOp BinOp.add 3 (Operand.tmp 33) (Operand.tmp 35) 3, 3, _, _, none⟩) (oz := ⟨none, Op.store 3 (Operand.tmp 38) (Operand.tmp 37), 0, _, _, none⟩) (v := .int .i64 (x + 1 + q)) rfl rfl (by kernel_rfl) (fun _ _ _ h => h) (by rfl) (by assumption) (fun wS hSw => ?_) ?_
        · (try dsimp only at hSw); go_simp
        simp only [Act.put, List.setIfInBounds_toArray, List.set_cons_zero, List.set_cons_succ]
        refine wpAnyZ_take (i := 6) (oi := ⟨some 37, Op.binOp BinOp.rem 3 (Operand.tmp 36) (Operand.const (Value.int IntKind.i64 13)) 3, 3, _, _, none⟩) (oz := ⟨none, Op.store 3 (Operand.tmp 38) (Operand.tmp 37), 0, _, _, none⟩) (v := .int .i64 ((x + 1 + q).tmod 13)) rfl rfl (by kernel_rfl) (fun _ _ _ h => h) (by rfl) (by assumption) (fun wS hSw => ?_) ?_
        · (try dsimp only at hSw); go_simp
        simp only [Act.put, List.setIfInBounds_toArray, List.set_cons_zero, List.set_cons_succ]
        refine wpAnyZ_take (i := 7) (oi := ⟨some 38, Op.fieldAddr 36 (Operand.tmp 6) 0, 0, _, _, none⟩) (oz := ⟨none, Op.store 3 (Operand.tmp 38) (Operand.tmp 37), 0, _, _, none⟩) (v := .pointer (some ⟨G, 0, none⟩)) rfl rfl (by kernel_rfl) (fun _ _ _ h => h) (by rfl) (by assumption) (fun wS hSw => ?_) ?_
        · (try dsimp only at hSw); go_simp
        simp only [Act.put, List.setIfInBounds_toArray, List.set_cons_zero, List.set_cons_succ]
        refine wpAnyZ_listed #[true, true, true, true, true, true, true, true, false] (by kernel_rfl) ?_
        refine wpAnyZ_step (o := ⟨none, Op.store 3 (Operand.tmp 38) (Operand.tmp 37), 0, _, _, none⟩) (by kernel_rfl) (by decide) rfl (fun K hK => ?_)
        have f0 := X1.tail.free (.head _) (i := 0) rfl
        go_simp
        have X2 := X1.swap.set 0 (by simp) (.int .i64 ((x + 1 + q).tmod 13))
        have O8 := Oth.set G 0 w8 (.int .i64 ((x + 1 + q).tmod 13))
        generalize w8.setCell ⟨G, 0, none⟩ (.int .i64 ((x + 1 + q).tmod 13)) = w9 at *
        clear f0
        try clear hHeld
        refine hK.out _ _ ?_
        clear hK K
        try simp only [List.setIfInBounds_toArray, List.set_cons_zero, List.set_cons_succ]
        refine wpAnyH_listed #[true, true, true, true, true, true, true, true, true] (by kernel_rfl) ?_
        have hHeld := True.intro
        refine wpAnyH_done (by kernel_rfl) ?_ _
        have z0 : 0 ≤ (x + 1 + q).tmod 13 := Int.tmod_nonneg _ (by omega)
        have z1 : (x + 1 + q).tmod 13 < 13 := Int.tmod_lt_of_pos _ (by omega)
        refine Calm.normal ?_
        go_wp2_with fail
        go_roundw
        case rel => exact ⟨k + 1, t5, (x + 1 + q).tmod 13, y, ps ++ [(x, y)], by omega, by go_num, by simp [hlen], Lib.hid (HC.out.snoc hx hy), by omega, by omega, by omega, X2, O8.own (by omega) (O7.own (by omega) hO4)⟩
        case measure => simp [RowKit.intOf]; omega
      · have s1 : IntKind.i64.wrap (y + 1) = y + 1 := by rw [IntKind.wrap_i64]; omega
        go_wp2_with fail
        refine plain_Z 10 (fun W => W.cell? ⟨G, 0, none⟩ = some (.int .i64 x) ∧ W.cell? ⟨G, 1, none⟩ = some (.int .i64 y)) (by kernel_rfl) ?_
        have X0 := C6.drew
        have hO4 : Own (G + 1) w6.drew _ _ := hO3.later ((Below.refl _ _).drew)
        have hHeld : (fun W => W.cell? ⟨G, 0, none⟩ = some (.int .i64 x) ∧ W.cell? ⟨G, 1, none⟩ = some (.int .i64 y)) w6.drew := ⟨X0.tail.fact (.head _) (i := 0) rfl, X0.tail.fact (.head _) (i := 1) rfl⟩
        generalize w6.drew = w7 at *
        clear C6 hO3
        try dsimp only at hHeld
        refine wpAnyZ_take (i := 0) (oi := ⟨some 39, Op.move (Operand.tmp 3), 54, _, _, none⟩) (oz := ⟨none, Op.store 36 (Operand.tmp 6) (Operand.tmp 48), 0, _, _, none⟩) (v := .pointer (some ⟨D', 0, none⟩)) rfl rfl (by kernel_rfl) (fun _ _ _ h => h) (by rfl) (by assumption) (fun wS hSw => ?_) ?_
        · (try dsimp only at hSw); go_simp
        simp only [Act.put, List.setIfInBounds_toArray, List.set_cons_zero, List.set_cons_succ]
        refine wpAnyZ_take (i := 2) (oi := ⟨some 41, Op.fieldAddr 36 (Operand.tmp 6) 1, 0, _, _, none⟩) (oz := ⟨none, Op.store 36 (Operand.tmp 6) (Operand.tmp 48), 0, _, _, none⟩) (v := .pointer (some ⟨G, 1, none⟩)) rfl rfl (by kernel_rfl) (fun _ _ _ h => h) (by rfl) (by assumption) (fun wS hSw => ?_) ?_
        · (try dsimp only at hSw); go_simp
        simp only [Act.put, List.setIfInBounds_toArray, List.set_cons_zero, List.set_cons_succ]
        refine wpAnyZ_take (i := 3) (oi := ⟨some 42, Op.load 3 (Operand.tmp 41), 3, _, _, none⟩) (oz := ⟨none, Op.store 36 (Operand.tmp 6) (Operand.tmp 48), 0, _, _, none⟩) (v := .int .i64 y) rfl rfl (by kernel_rfl) (fun _ _ _ h => h) (by rfl) (by assumption) (fun wS hSw => ?_) ?_
        · (try dsimp only at hSw); go_simp
        simp only [Act.put, List.setIfInBounds_toArray, List.set_cons_zero, List.set_cons_succ]
        refine wpAnyZ_take (i := 4) (oi := ⟨some 43, Op.binOp BinOp.add 3 (Operand.tmp 42) (Operand.const (Value.int IntKind.i64 1)) 3, 3, _, _, none⟩) (oz := ⟨none, Op.store 36 (Operand.tmp 6) (Operand.tmp 48), 0, _, _, none⟩) (v := .int .i64 (y + 1)) rfl rfl (by kernel_rfl) (fun _ _ _ h => h) (by rfl) (by assumption) (fun wS hSw => ?_) ?_
        · (try dsimp only at hSw); go_simp
        simp only [Act.put, List.setIfInBounds_toArray, List.set_cons_zero, List.set_cons_succ]
        refine wpAnyZ_take (i := 5) (oi := ⟨some 44, Op.move (Operand.tmp 3), 54, _, _, none⟩) (oz := ⟨none, Op.store 36 (Operand.tmp 6) (Operand.tmp 48), 0, _, _, none⟩) (v := .pointer (some ⟨D', 0, none⟩)) rfl rfl (by kernel_rfl) (fun _ _ _ h => h) (by rfl) (by assumption) (fun wS hSw => ?_) ?_
        · (try dsimp only at hSw); go_simp
        simp only [Act.put, List.setIfInBounds_toArray, List.set_cons_zero, List.set_cons_succ]
        refine wpAnyZ_listed #[true, false, true, true, true, true, false, false, false, false, false] (by kernel_rfl) ?_
        refine wpAnyZ_one (i := 1) (o := ⟨some 40, Op.call { callee := Callee.value (Operand.func 34), args := #[Operand.tmp 39, Operand.const (Value.int IntKind.i64 13)], argTypes := #[54, 3] }, 3, _, _, none⟩) (by kernel_rfl) rfl (fun K hK => ?_)
        go_simp
        go_at_call 34
        refine (next_any X0 HR.out ht4 13 (by decide) (by decide)).mono ?_
        rintro e w8 ⟨u, t5, rfl, hu0, hu1, ht5, X1, O7⟩
        go_wp2_with fail
        try clear hHeld
        refine hK.out _ _ (⟨X1.tail.fact (.head _) (i := 0) rfl, X1.tail.fact (.head _) (i := 1) rfl⟩) (fun hHeld => ?_)
        clear hK K
        try simp only [List.setIfInBounds_toArray, List.set_cons_zero, List.set_cons_succ]
        refine wpAnyZ_listed #[true, true, true, true, true, true, false, false, false, false, false] (by kernel_rfl) ?_
        refine wpAnyZ_one (i := 6) (o := ⟨some 45, Op.call { callee := Callee.value (Operand.func 34), args := #[Operand.tmp 44, Operand.const (Value.int IntKind.i64 12)], argTypes := #[54, 3] }, 3, _, _, none⟩) (by kernel_rfl) rfl (fun K hK => ?_)
        go_simp
        go_at_call 34
        refine (next_any X1 HR.out ht5 12 (by decide) (by decide)).mono ?_
        rintro e w9 ⟨q, t6, rfl, hq0, hq1, ht6, X3, O9⟩
        go_wp2_with fail
        try clear hHeld
        refine hK.out _ _ (⟨X3.tail.fact (.head _) (i := 0) rfl, X3.tail.fact (.head _) (i := 1) rfl⟩) (fun hHeld => ?_)
        clear hK K
        try simp only [List.setIfInBounds_toArray, List.set_cons_zero, List.set_cons_succ]
        refine wpAnyZ_listed #[true, true, true, true, true, true, true, false, false, false, false] (by kernel_rfl) ?_
        have s2 : IntKind.i64.wrap (y + 1 + q) = y + 1 + q := by rw [IntKind.wrap_i64]; omega
        refine wpAnyZ_take (i := 7) (oi := ⟨some 46, Op.binOp BinOp.add 3 (Operand.tmp 43) (Operand.tmp 45) 3, 3, _, _, none⟩) (oz := ⟨none, Op.store 36 (Operand.tmp 6) (Operand.tmp 48), 0, _, _, none⟩) (v := .int .i64 (y + 1 + q)) rfl rfl (by kernel_rfl) (fun _ _ _ h => h) (by rfl) (by assumption) (fun wS hSw => ?_) ?_
        · (try dsimp only at hSw); go_simp
        simp only [Act.put, List.setIfInBounds_toArray, List.set_cons_zero, List.set_cons_succ]
        refine wpAnyZ_take (i := 8) (oi := ⟨some 47, Op.binOp BinOp.rem 3 (Operand.tmp 46) (Operand.const (Value.int IntKind.i64 13)) 3, 3, _, _, none⟩) (oz := ⟨none, Op.store 36 (Operand.tmp 6) (Operand.tmp 48), 0, _, _, none⟩) (v := .int .i64 ((y + 1 + q).tmod 13)) rfl rfl (by kernel_rfl) (fun _ _ _ h => h) (by rfl) (by assumption) (fun wS hSw => ?_) ?_
        · (try dsimp only at hSw); go_simp
        simp only [Act.put, List.setIfInBounds_toArray, List.set_cons_zero, List.set_cons_succ]
        refine wpAnyZ_take (i := 9) (oi := ⟨some 48, Op.build 36 #[(0, Operand.tmp 40), (1, Operand.tmp 47)], 36, _, _, none⟩) (oz := ⟨none, Op.store 36 (Operand.tmp 6) (Operand.tmp 48), 0, _, _, none⟩) (v := .agg #[.int .i64 u, .int .i64 ((y + 1 + q).tmod 13)]) rfl rfl (by kernel_rfl) (fun _ _ _ h => h) (by rfl) (by assumption) (fun wS hSw => ?_) ?_
        · (try dsimp only at hSw); go_simp
        simp only [Act.put, List.setIfInBounds_toArray, List.set_cons_zero, List.set_cons_succ]
        refine wpAnyZ_listed #[true, true, true, true, true, true, true, true, true, true, false] (by kernel_rfl) ?_
        refine wpAnyZ_step (o := ⟨none, Op.store 36 (Operand.tmp 6) (Operand.tmp 48), 0, _, _, none⟩) (by kernel_rfl) (by decide) rfl (fun K hK => ?_)
        have f0 := X3.tail.free (.head _) (i := 0) rfl
        have f1 := X3.tail.free (.head _) (i := 1) rfl
        go_simp
        have X2 := X3.swap.set2 (.int .i64 u) (.int .i64 ((y + 1 + q).tmod 13))
        have O8 := (Oth.set G 0 w9 (.int .i64 u)).then (Oth.set G 1 _ (.int .i64 ((y + 1 + q).tmod 13)))
        generalize (w9.setCell ⟨G, 0, none⟩ (.int .i64 u)).setCell ⟨G, 1, none⟩ (.int .i64 ((y + 1 + q).tmod 13)) = w10 at *
        clear f0 f1
        try clear hHeld
        refine hK.out _ _ ?_
        clear hK K
        try simp only [List.setIfInBounds_toArray, List.set_cons_zero, List.set_cons_succ]
        refine wpAnyH_listed #[true, true, true, true, true, true, true, true, true, true, true] (by kernel_rfl) ?_
        have hHeld := True.intro
        refine wpAnyH_done (by kernel_rfl) ?_ _
        have z0 : 0 ≤ (y + 1 + q).tmod 13 := Int.tmod_nonneg _ (by omega)
        have z1 : (y + 1 + q).tmod 13 < 13 := Int.tmod_lt_of_pos _ (by omega)
        refine Calm.normal ?_
        go_wp2_with fail
        go_roundw
        case rel => exact ⟨k + 1, t6, u, (y + 1 + q).tmod 13, ps ++ [(x, y)], by omega, by go_num, by simp [hlen], Lib.hid (HC.out.snoc hx hy), by omega, by omega, by omega, X2, O8.own (by omega) (O9.own (by omega) (O7.own (by omega) hO4))⟩
        case measure => simp [RowKit.intOf]; omega
    · obtain rfl : k = M := by omega
      by_cases h3 : 3 < k
      · have b2 : decide ((k : Int) > 3) = true := decide_eq_true (by omega)
        have e1 : IntKind.i64.wrap ((k : Int) - 1) = (k : Int) - 1 := by rw [IntKind.wrap_i64]; omega
        go_wp2_with fail
        refine (next_any hI.swap HR.out ht4 3 (by decide) (by decide)).mono ?_
        rintro e w5 ⟨r, t5, rfl, hr0, hr1, -, C5, O5⟩
        have hO2 := O5.own (by omega) hO
        clear hI hO
        by_cases hr : r = 0
        · subst hr
          obtain ⟨g, cap2, rfl, hgb, hgl⟩ := hO2.form (by omega)
          obtain ⟨x0, y0, hp⟩ := some_pt (ps := ps) (k := 0) (by omega)
          obtain ⟨c0, c1⟩ := hO2.row.cells hp
          obtain ⟨j, hj⟩ : ∃ j : Nat, k - 1 = j := ⟨_, rfl⟩
          have ej : (k : Int) - 1 = (j : Int) := by omega
          rw [ej] at e1
          have f2 := hO2.frozen (j * 2)
          have f3 := hO2.frozen (j * 2 + 1)
          have HS := Lib.hid (HC.out.set j (List.mem_of_getElem? hp))
          have hOs := hO2.set j x0 y0
          have hBs := (Below.setCell (C5.low) (p := ⟨g, j * 2, none⟩) (show w.heap.size ≤ g by omega) (.int .i64 x0)).setCell (p := ⟨g, j * 2 + 1, none⟩) (show w.heap.size ≤ g by omega) (.int .i64 y0)
          obtain ⟨xj, yj, hpj⟩ := some_pt (ps := ps) (k := j) (by omega)
          obtain ⟨c2, c3⟩ := hO2.row.cells hpj
          rw [Nat.zero_mul, Nat.zero_add] at c0 c1
          rw [Nat.zero_add] at c2 c3
          have HL := Lib.hid hlen
          have HW := Lib.hid (And.intro hOs hBs)
          clear hp hpj hOs hBs hO2
          rw [hlen]
          have b3 : (0 : Int) < k := by omega
          have b4 : (j : Int) < k := by omega
          have b5 : (0 : Int) ≤ j := by omega
          go_wp2_with fail
          go_ret
          have hq := HW.out.1.row
          exact ⟨_, _, rfl, by rw [← HL.out]; exact hq, by rw [List.length_set]; omega, HS.out, HW.out.2⟩
        · have b6 : (r == 0) = false := by rw [beq_eq_false_iff_ne]; exact hr
          go_wp2_with fail
          go_ret
          exact ⟨_, ps, rfl, hO2.row, by omega, HC.out, C5.low⟩
      · have b2 : decide ((k : Int) > 3) = false := decide_eq_false (by omega)
        go_wp2_with fail
        go_ret
        exact ⟨_, ps, rfl, hO.row, by omega, HC.out, hI.low⟩

end Go.Proofs.Ytkejilomempogaa

namespace Go.Proofs.Ytkejilomempogaa
open Go.RowKit Go.Lib

theorem RowP.take {w : World} {a : Option Addr} {n c : Nat} {ps : List (Int × Int)} (h : RowP w (.slice a n c) ps) (m : Nat) (hm : m ≤ ps.length) : RowP w (.slice a m c) (ps.take m) := by
  obtain ⟨a', cap, e, h2, h3, h4⟩ := h
  simp only [Value.slice.injEq] at e
  obtain ⟨rfl, rfl, rfl⟩ := e
  have hl : (ps.take m).length = m := by rw [List.length_take]; omega
  refine ⟨a, c, by rw [hl], by omega, h3, ?_⟩
  rcases h4 with rfl | ⟨b, o, e, h⟩
  · exact .inl (by simp)
  · refine .inr ⟨b, o, e, fun i p hp => ?_⟩
    by_cases hi : i < m
    · rw [List.getElem?_take_of_lt hi] at hp; exact h i p hp
    · rw [List.getElem?_eq_none (by omega)] at hp; cases hp

set_option linter.unusedSimpArgs false in
set_option maxRecDepth 100000 in
set_option maxHeartbeats 4000000 in
theorem cut_any (v : Value) (ps : List (Int × Int)) (w : World) (hv : RowP w v ps) :
    Calls Try.prog 11 #[v] w fun e w' => ∃ u, e = .returned u ∧ RowP w' u (ps.take 45) ∧ Below w.heap.size w w' := by
  have hv0 := hv
  obtain ⟨a, cap, rfl, h1, h2, -⟩ := hv0
  have HV := Lib.hid hv
  clear hv
  obtain ⟨n, hn⟩ : ∃ n, ps.length = n := ⟨_, rfl⟩
  rw [hn] at h1
  rw [hn]
  by_cases hlt : n ≤ 45
  · have e1 : min (n : Int) 45 = n := by omega
    have b1 : (n : Int) ≤ cap := by omega
    have b2 : (0 : Int) ≤ n := by omega
    have HN := Lib.hid hn
    clear hn
    go_enter Try.func11, Try.ntmps11
    go_wp2_with fail
    refine bodyPost_ret (v := .slice a n cap) (by simp [results, Try.results11, go_sem]) rfl ⟨_, rfl, ?_, Below.refl _ _⟩
    have := HV.out
    rw [HN.out] at this
    rw [List.take_of_length_le (by rw [HN.out]; exact hlt)]
    exact this
  · have e1 : min (n : Int) 45 = 45 := by omega
    have b1 : (45 : Int) ≤ cap := by omega
    have HN := Lib.hid hn
    clear hn
    go_enter Try.func11, Try.ntmps11
    go_wp2_with fail
    refine bodyPost_ret (v := .slice a 45 cap) (by simp [results, Try.results11, go_sem]) rfl ⟨_, rfl, ?_, Below.refl _ _⟩
    exact HV.out.take 45 (by rw [HN.out]; omega)
set_option linter.unusedSimpArgs false in
set_option maxRecDepth 100000 in
set_option maxHeartbeats 4000000 in
theorem few_any (v : Value) (ps : List (Int × Int)) (w : World) (hv : RowP w v ps) :
    Calls Try.prog 25 #[v] w fun e w' => ∃ u, e = .returned u ∧ RowP w' u (ps.take 8) ∧ Below w.heap.size w w' := by
  have hv0 := hv
  obtain ⟨a, cap, rfl, h1, h2, -⟩ := hv0
  have HV := Lib.hid hv
  clear hv
  obtain ⟨n, hn⟩ : ∃ n, ps.length = n := ⟨_, rfl⟩
  rw [hn] at h1
  rw [hn]
  by_cases hlt : n ≤ 8
  · have e1 : min (n : Int) 8 = n := by omega
    have b1 : (n : Int) ≤ cap := by omega
    have b2 : (0 : Int) ≤ n := by omega
    have HN := Lib.hid hn
    clear hn
    go_enter Try.func25, Try.ntmps25
    go_wp2_with fail
    refine bodyPost_ret (v := .slice a n cap) (by simp [results, Try.results25, go_sem]) rfl ⟨_, rfl, ?_, Below.refl _ _⟩
    have := HV.out
    rw [HN.out] at this
    rw [List.take_of_length_le (by rw [HN.out]; exact hlt)]
    exact this
  · have e1 : min (n : Int) 8 = 8 := by omega
    have b1 : (8 : Int) ≤ cap := by omega
    have HN := Lib.hid hn
    clear hn
    go_enter Try.func25, Try.ntmps25
    go_wp2_with fail
    refine bodyPost_ret (v := .slice a 8 cap) (by simp [results, Try.results25, go_sem]) rfl ⟨_, rfl, ?_, Below.refl _ _⟩
    exact HV.out.take 8 (by rw [HN.out]; omega)

end Go.Proofs.Ytkejilomempogaa

namespace Go.Proofs.Ytkejilomempogaa
open Go.RowKit Go.Lib

/-- A point turned and moved. -/
def mvP (q0 q1 q2 : Int) (p : Int × Int) : Int × Int := (wrap64 ((rotN ((q0.tmod 4) % 4).toNat p.1 p.2).1 + q1.tmod 10000), wrap64 ((rotN ((q0.tmod 4) % 4).toNat p.1 p.2).2 + q2.tmod 10000))
/-- At a step of a region that draws its order. -/
theorem step_pts {ops : Array Oper} {o : Oper} {a : Act} {w : World} {K : Act → World → Prop} {Q : Exit → Act → World → Prop} {E : Prop} (hgd : o.guard = none) (s x : Operand)
    (ho : o.op = .call { callee := .builtin .append, args := #[s, x], argTypes := #[23, 23] }) {b : Nat} {v vx : Value} {ps qs : List (Int × Int)} (hs : a.eval s = v) (h : Own b w v ps)
    (hx : a.eval x = vx) (hr : RowP w vx qs) (hn : ps.length + qs.length ≤ 100000) (hb : b ≤ w.heap.size)
    (hK : ∀ v' w', Own b w' v' (ps ++ qs) → w.grownBy w' v.ownBlock → K (a.put o.dst v') w') :
    if Region.wanted o (yielded ops a.tmps) = true then Oper.wp Try.prog o a w K Q else E := by
  have hw : Region.wanted o (yielded ops a.tmps) = true := by simp [Region.wanted, hgd]
  rw [if_pos hw]
  obtain ⟨v', w', e1, e2, e3⟩ := run_append_own o.type h hr hn hb
  unfold Oper.wp execOp
  simp only [ho, resolve, invoke, builtin, Sem.run_bind, Sem.run_pure, Result.andThen_ok, List.map_toArray, List.map_cons, List.map_nil, hs, hx, e1]
  exact hK v' w' e2 e3

theorem calls_two {w0 w : World} {bs : List (Nat × List Value)} {k : FuncId} {args : Array Value} {E : Ending} {P : Program} (h : Has w0 bs w) (hc : Calls P k args w fun e w' => e = E ∧ Below w.heap.size w w') : Calls P k args w fun e w' => e = E ∧ Has w0 bs w' ∧ Grows w w' :=
  hc.mono fun _ _ ⟨h1, h2⟩ => ⟨h1, h.later h2, h2⟩
attribute [local go_sem] Oper.semAt_some
set_option linter.unusedSimpArgs false in
set_option maxRecDepth 100000 in
set_option maxHeartbeats 4000000 in
theorem moved_any (v : Value) (l : List (Int × Int)) (q0 q1 q2 : Int) (w : World) (hv : RowP w v l) (hl : l.length ≤ 1000) :
    Calls Try.prog 28 #[v, .agg #[.int .i64 q0, .int .i64 q1, .int .i64 q2]] w fun e w' => ∃ u, e = .returned u ∧ RowP w' u (l.map (mvP q0 q1 q2)) ∧ Below w.heap.size w w' := by
  have hv0 := hv
  obtain ⟨a, cap, rfl, h1, h2, -⟩ := hv0
  obtain ⟨n, hn⟩ : ∃ n, l.length = n := ⟨_, rfl⟩
  rw [hn] at hv h1 hl ⊢
  have HV := Lib.hid hv
  have HN := Lib.hid hn
  clear hv hn
  have C0 := (Has.nil (Below.refl w.heap.size w)).push [.int .i64 q0, .int .i64 q1, .int .i64 q2] 34
  have hO0 := Own.nil (w.heap.size + 1) (w.alloc (.cells #[.int .i64 q0, .int .i64 q1, .int .i64 q2] 34))
  go_enter Try.func28, Try.ntmps28
  go_wp2_with fail
  change Has w _ (w.alloc (.cells #[.int .i64 q0, .int .i64 q1, .int .i64 q2] 34)) at C0
  generalize w.alloc (.cells #[.int .i64 q0, .int .i64 q1, .int .i64 q2] 34) = w1 at *
  obtain ⟨Q, hQ⟩ : ∃ Q, w.heap.size = Q := ⟨_, rfl⟩
  have hwQ : w.heap.size ≤ Q + 1 := by omega
  rw [hQ] at C0 hO0 ⊢
  go_loopw [5, 6] (fun o i wr => ∃ k : Nat, k ≤ n ∧ i = .int .i64 k ∧ Has w [(Q, [.int .i64 q0, .int .i64 q1, .int .i64 q2])] wr ∧ Own (Q + 1) wr o ((l.take k).map (mvP q0 q1 q2))) (fun _ i _ => n - (RowKit.intOf i).toNat)
  case atStart => exact ⟨0, Nat.zero_le _, rfl, C0, hO0⟩
  case round =>
    clear C0 hO0
    obtain ⟨k, hk, rfl, hI, hO⟩ := hrel
    by_cases hlt : k < n
    · have hR := HV.out.later hI.low
      obtain ⟨b, o, rfl, -⟩ := hR.spot (by rw [HN.out]; omega)
      obtain ⟨x, y, hp⟩ := some_pt (ps := l) (k := k) (by rw [HN.out]; exact hlt)
      obtain ⟨X, Y, hT⟩ : ∃ X Y, rotN ((q0.tmod 4) % 4).toNat x y = (X, Y) := ⟨_, _, rfl⟩
      obtain ⟨X2, hX2⟩ : ∃ X2, wrap64 (X + q1.tmod 10000) = X2 := ⟨_, rfl⟩
      obtain ⟨Y2, hY2⟩ : ∃ Y2, wrap64 (Y + q2.tmod 10000) = Y2 := ⟨_, rfl⟩
      have HM := Lib.hid (show (l.take (k + 1)).map (mvP q0 q1 q2) = (l.take k).map (mvP q0 q1 q2) ++ [(X2, Y2)] by
        rw [List.take_add_one, hp, List.map_append]
        simp only [Option.toList_some, List.map_cons, List.map_nil, mvP, hT, hX2, hY2])
      have HP := Lib.hid hp
      have HT := Lib.hid hT
      have HX2 := Lib.hid hX2
      have HY2 := Lib.hid hY2
      have hlen : ((l.take k).map (mvP q0 q1 q2)).length ≤ 1000 := by rw [List.length_map, List.length_take]; omega
      clear hp hT hX2 hY2 hR
      have b1 : (k : Int) < n := by omega
      have b2 : (0 : Int) ≤ k := by omega
      go_wp2_with fail
      have X0 := hI.drew
      have hO1 : Own (Q + 1) wr.drew _ _ := hO.later ((Below.refl _ _).drew)
      clear hI hO
      have HS := Lib.hid (show ∀ w', Has w [(Q, [.int .i64 q0, .int .i64 q1, .int .i64 q2])] w' → (w'.cell? ⟨b, o + k * 2, none⟩ = some (.int .i64 x) ∧ w'.cell? ⟨b, o + k * 2 + 1, none⟩ = some (.int .i64 y) ∧ w'.cell? ⟨Q, 0, none⟩ = some (.int .i64 q0) ∧ w'.cell? ⟨Q, 1, none⟩ = some (.int .i64 q1) ∧ w'.cell? ⟨Q, 2, none⟩ = some (.int .i64 q2)) ∧ Has w [(Q, [.int .i64 q0, .int .i64 q1, .int .i64 q2])] w' from fun w' h => by
        have hRb := HV.out.later h.low
        exact ⟨⟨(hRb.cells HP.out).1, (hRb.cells HP.out).2, h.fact (.head _) (i := 0) rfl, h.fact (.head _) (i := 1) rfl, h.fact (.head _) (i := 2) rfl⟩, h⟩)
      refine wp_region_held_drew (S := (fun w' => (w'.cell? ⟨b, o + k * 2, none⟩ = some (.int .i64 x) ∧ w'.cell? ⟨b, o + k * 2 + 1, none⟩ = some (.int .i64 y) ∧ w'.cell? ⟨Q, 0, none⟩ = some (.int .i64 q0) ∧ w'.cell? ⟨Q, 1, none⟩ = some (.int .i64 q1) ∧ w'.cell? ⟨Q, 2, none⟩ = some (.int .i64 q2)) ∧ Has w [(Q, [.int .i64 q0, .int .i64 q1, .int .i64 q2])] w')) (by kernel_rfl) (HS.out _ X0) (fun hHeld => ?_)
      refine wpAnyT_begin [0, 1, 2, 3, 4, 5, 6, 7, 9, 10, 11, 12, 13, 14] (by kernel_rfl) (by kernel_rfl) ?_
      refine wpAnyT_take (oi := ⟨some 13, Op.move (Operand.tmp 5), 23, _, _, none⟩) (v := u5) rfl (fun _ _ _ h => h) (by rfl) (by assumption) (fun wS hSw => ?_) ?_
      · (try dsimp only at hSw); go_simp
      simp only [Act.put, List.setIfInBounds_toArray, List.set_cons_zero, List.set_cons_succ]
      refine wpAnyT_take (oi := ⟨some 14, Op.move (Operand.tmp 0), 23, _, _, none⟩) (v := .slice (some ⟨b, o, none⟩) n cap) rfl (fun _ _ _ h => h) (by rfl) (by assumption) (fun wS hSw => ?_) ?_
      · (try dsimp only at hSw); go_simp
      simp only [Act.put, List.setIfInBounds_toArray, List.set_cons_zero, List.set_cons_succ]
      refine wpAnyT_take (oi := ⟨some 15, Op.move (Operand.tmp 6), 3, _, _, none⟩) (v := .int .i64 k) rfl (fun _ _ _ h => h) (by rfl) (by assumption) (fun wS hSw => ?_) ?_
      · (try dsimp only at hSw); go_simp
      simp only [Act.put, List.setIfInBounds_toArray, List.set_cons_zero, List.set_cons_succ]
      refine wpAnyT_take (oi := ⟨some 16, Op.indexAddr 23 (Operand.tmp 14) (Operand.tmp 15), 0, _, _, none⟩) (v := .pointer (some ⟨b, o + k * 2, none⟩)) rfl (fun _ _ _ h => h) (by rfl) (by assumption) (fun wS hSw => ?_) ?_
      · (try dsimp only at hSw); go_simp
      simp only [Act.put, List.setIfInBounds_toArray, List.set_cons_zero, List.set_cons_succ]
      refine wpAnyT_take (oi := ⟨some 17, Op.load 36 (Operand.tmp 16), 36, _, _, none⟩) (v := .agg #[.int .i64 x, .int .i64 y]) rfl (fun _ _ _ h => h) (by rfl) (by assumption) (fun wS hSw => ?_) ?_
      · (try dsimp only at hSw); go_simp
      simp only [Act.put, List.setIfInBounds_toArray, List.set_cons_zero, List.set_cons_succ]
      refine wpAnyT_take (oi := ⟨some 18, Op.indexAddr 34 (Operand.tmp 3) (Operand.const (Value.int IntKind.i64 0)), 0, _, _, none⟩) (v := .pointer (some ⟨Q, 0, none⟩)) rfl (fun _ _ _ h => h) (by rfl) (by assumption) (fun wS hSw => ?_) ?_
      · (try dsimp only at hSw); go_simp
      simp only [Act.put, List.setIfInBounds_toArray, List.set_cons_zero, List.set_cons_succ]
      refine wpAnyT_take (oi := ⟨some 19, Op.load 3 (Operand.tmp 18), 3, _, _, none⟩) (v := .int .i64 q0) rfl (fun _ _ _ h => h) (by rfl) (by assumption) (fun wS hSw => ?_) ?_
      · (try dsimp only at hSw); go_simp
      simp only [Act.put, List.setIfInBounds_toArray, List.set_cons_zero, List.set_cons_succ]
      refine wpAnyT_take (oi := ⟨some 20, Op.binOp BinOp.rem 3 (Operand.tmp 19) (Operand.const (Value.int IntKind.i64 4)) 3, 3, _, _, none⟩) (v := .int .i64 (q0.tmod 4)) rfl (fun _ _ _ h => h) (by rfl) (by assumption) (fun wS hSw => ?_) ?_
      · (try dsimp only at hSw); go_simp
      simp only [Act.put, List.setIfInBounds_toArray, List.set_cons_zero, List.set_cons_succ]
      refine wpAnyT_take (oi := ⟨some 22, Op.indexAddr 34 (Operand.tmp 3) (Operand.const (Value.int IntKind.i64 1)), 0, _, _, none⟩) (v := .pointer (some ⟨Q, 1, none⟩)) rfl (fun _ _ _ h => h) (by rfl) (by assumption) (fun wS hSw => ?_) ?_
      · (try dsimp only at hSw); go_simp
      simp only [Act.put, List.setIfInBounds_toArray, List.set_cons_zero, List.set_cons_succ]
      refine wpAnyT_take (oi := ⟨some 23, Op.load 3 (Operand.tmp 22), 3, _, _, none⟩) (v := .int .i64 q1) rfl (fun _ _ _ h => h) (by rfl) (by assumption) (fun wS hSw => ?_) ?_
      · (try dsimp only at hSw); go_simp
      simp only [Act.put, List.setIfInBounds_toArray, List.set_cons_zero, List.set_cons_succ]
      refine wpAnyT_take (oi := ⟨some 24, Op.binOp BinOp.rem 3 (Operand.tmp 23) (Operand.const (Value.int IntKind.i64 10000)) 3, 3, _, _, none⟩) (v := .int .i64 (q1.tmod 10000)) rfl (fun _ _ _ h => h) (by rfl) (by assumption) (fun wS hSw => ?_) ?_
      · (try dsimp only at hSw); go_simp
      simp only [Act.put, List.setIfInBounds_toArray, List.set_cons_zero, List.set_cons_succ]
      refine wpAnyT_take (oi := ⟨some 25, Op.indexAddr 34 (Operand.tmp 3) (Operand.const (Value.int IntKind.i64 2)), 0, _, _, none⟩) (v := .pointer (some ⟨Q, 2, none⟩)) rfl (fun _ _ _ h => h) (by rfl) (by assumption) (fun wS hSw => ?_) ?_
      · (try dsimp only at hSw); go_simp
      simp only [Act.put, List.setIfInBounds_toArray, List.set_cons_zero, List.set_cons_succ]
      refine wpAnyT_take (oi := ⟨some 26, Op.load 3 (Operand.tmp 25), 3, _, _, none⟩) (v := .int .i64 q2) rfl (fun _ _ _ h => h) (by rfl) (by assumption) (fun wS hSw => ?_) ?_
      · (try dsimp only at hSw); go_simp
      simp only [Act.put, List.setIfInBounds_toArray, List.set_cons_zero, List.set_cons_succ]
      refine wpAnyT_take (oi := ⟨some 27, Op.binOp BinOp.rem 3 (Operand.tmp 26) (Operand.const (Value.int IntKind.i64 10000)) 3, 3, _, _, none⟩) (v := .int .i64 (q2.tmod 10000)) rfl (fun _ _ _ h => h) (by rfl) (by assumption) (fun wS hSw => ?_) ?_
      · (try dsimp only at hSw); go_simp
      simp only [Act.put, List.setIfInBounds_toArray, List.set_cons_zero, List.set_cons_succ]
      refine wpAnyT_end ?_
      refine wpAnyH_listed #[true, true, true, true, true, true, true, true, false, true, true, true, true, true, true, false, false, false, false, false] (by kernel_rfl) ?_
      refine wpAnyH_ready (rs := [8]) (by kernel_rfl) (by simp) ?_
      refine AllReadyH.cons (o := ⟨some 21, Op.call { callee := Callee.value (Operand.func 57), args := #[Operand.tmp 17, Operand.tmp 20], argTypes := #[36, 3] }, 36, _, _, none⟩) rfl (fun K hK => ?_) AllReadyH.nil
      go_simp
      go_at_call 57
      refine (calls_two X0 (turn_is x y (q0.tmod 4) X Y HT.out _)).mono ?_
      rintro e w2 ⟨rfl, J1, g1⟩
      go_wp2_with fail
      clear hHeld
      refine hK.out _ _ (HS.out _ J1) (fun hHeld => ?_)
      clear hK K
      try simp only [List.setIfInBounds_toArray, List.set_cons_zero, List.set_cons_succ]
      refine wpAnyH_listed #[true, true, true, true, true, true, true, true, true, true, true, true, true, true, true, false, false, false, false, false] (by kernel_rfl) ?_
      have hO2 := hO1.later g1
      refine wpAnyH_ready (rs := [15]) (by kernel_rfl) (by simp) ?_
      refine AllReadyH.cons (o := ⟨some 28, Op.call { callee := Callee.value (Operand.func 22), args := #[Operand.tmp 24, Operand.tmp 27], argTypes := #[3, 3] }, 36, _, _, none⟩) rfl (fun K hK => ?_) AllReadyH.nil
      go_simp
      go_at_call 22
      refine (calls_two J1 (at_any (q1.tmod 10000) (q2.tmod 10000) _)).mono ?_
      rintro e w3 ⟨rfl, J2, g2⟩
      go_wp2_with fail
      clear hHeld
      refine hK.out _ _ (HS.out _ J2) (fun hHeld => ?_)
      clear hK K
      try simp only [List.setIfInBounds_toArray, List.set_cons_zero, List.set_cons_succ]
      refine wpAnyH_listed #[true, true, true, true, true, true, true, true, true, true, true, true, true, true, true, true, false, false, false, false] (by kernel_rfl) ?_
      have hO3 := hO2.later g2
      refine wpAnyH_ready (rs := [16]) (by kernel_rfl) (by simp) ?_
      refine AllReadyH.cons (o := ⟨some 29, Op.call { callee := Callee.value (Operand.func 56), args := #[Operand.tmp 21, Operand.tmp 28], argTypes := #[36, 36] }, 36, _, _, none⟩) rfl (fun K hK => ?_) AllReadyH.nil
      go_simp
      go_at_call 56
      refine (calls_two J2 (add_is X Y (q1.tmod 10000) (q2.tmod 10000) X2 Y2 HX2.out HY2.out _)).mono ?_
      rintro e w4 ⟨rfl, J3, g3⟩
      go_wp2_with fail
      clear hHeld
      refine hK.out _ _ (HS.out _ J3) (fun hHeld => ?_)
      clear hK K
      try simp only [List.setIfInBounds_toArray, List.set_cons_zero, List.set_cons_succ]
      refine wpAnyH_listed #[true, true, true, true, true, true, true, true, true, true, true, true, true, true, true, true, true, false, false, false] (by kernel_rfl) ?_
      have hO4 := hO3.later g3
      refine wpAnyH_ready (rs := [17]) (by kernel_rfl) (by simp) ?_
      refine AllReadyH.cons (o := ⟨some 30, Op.buildSlice 23 1 #[(0, Operand.tmp 29)], 23, _, _, none⟩) rfl (fun K hK => ?_) AllReadyH.nil
      obtain ⟨Cx, Rx⟩ := one_row J3 rfl [(X2, Y2)] (by simp)
      have hO5 := hO4.later ((Below.refl _ w4).alloc (Nat.le_refl _) (.cells (flat [(X2, Y2)]).toArray 36))
      go_simp
      change RowP (w4.alloc (.cells #[.int .i64 X2, .int .i64 Y2] 36)) _ _ at Rx
      change Own _ (w4.alloc (.cells #[.int .i64 X2, .int .i64 Y2] 36)) _ _ at hO5
      change Has w _ (w4.alloc (.cells #[.int .i64 X2, .int .i64 Y2] 36)) at Cx
      clear hHeld
      refine hK.out _ _ (HS.out _ Cx.tail) (fun hHeld => ?_)
      clear hK K
      try simp only [List.setIfInBounds_toArray, List.set_cons_zero, List.set_cons_succ]
      refine wpAnyH_listed #[true, true, true, true, true, true, true, true, true, true, true, true, true, true, true, true, true, true, false, false] (by kernel_rfl) ?_
      refine wpAnyH_ready (rs := [18]) (by kernel_rfl) (by simp) ?_
      refine AllReadyH.cons (o := ⟨some 31, Op.call { callee := Callee.builtin Builtin.append, args := #[Operand.tmp 13, Operand.tmp 30], argTypes := #[23, 23] }, 23, _, _, none⟩) rfl (fun K hK => ?_) AllReadyH.nil
      refine step_pts rfl _ _ rfl rfl hO5 rfl Rx (by simp; omega) (by have := Cx.tail.lt0; omega) ?_
      intro u6 w6 hO6 hG6
      have X6 := Cx.tail.grown hO5 (by intro p hp; simp only [List.mem_cons, List.not_mem_nil, or_false] at hp; rcases hp with rfl; exact Nat.lt_succ_self _) (by omega) hG6
      clear hHeld
      refine hK.out _ _ (HS.out _ X6) (fun hHeld => ?_)
      clear hK K
      try simp only [List.setIfInBounds_toArray, List.set_cons_zero, List.set_cons_succ]
      refine wpAnyH_listed #[true, true, true, true, true, true, true, true, true, true, true, true, true, true, true, true, true, true, true, false] (by kernel_rfl) ?_
      refine wpAnyT_begin [19] (by kernel_rfl) (by kernel_rfl) ?_
      refine wpAnyT_take (oi := ⟨some 5, Op.assign (Operand.tmp 31), 23, _, _, none⟩) (v := u6) rfl (fun _ _ _ h => h) (by rfl) (by assumption) (fun wS hSw => ?_) ?_
      · (try dsimp only at hSw); go_simp
      simp only [Act.put, List.setIfInBounds_toArray, List.set_cons_zero, List.set_cons_succ]
      refine wpAnyT_end ?_
      refine wpAnyH_listed #[true, true, true, true, true, true, true, true, true, true, true, true, true, true, true, true, true, true, true, true] (by kernel_rfl) ?_
      refine wpAnyH_done (by kernel_rfl) ?_ _
      clear hHeld
      go_wp2_with fail
      go_roundw
      case rel => exact ⟨k + 1, by omega, by go_num, X6, by rw [HM.out]; exact hO6⟩
      case measure => simp [RowKit.intOf]; omega
    · obtain rfl : k = n := by omega
      go_wp2_with fail
      go_ret
      rw [List.take_of_length_le (by rw [HN.out]; exact Nat.le_refl _)] at hO
      exact ⟨_, rfl, hO.row, hI.low⟩

end Go.Proofs.Ytkejilomempogaa
