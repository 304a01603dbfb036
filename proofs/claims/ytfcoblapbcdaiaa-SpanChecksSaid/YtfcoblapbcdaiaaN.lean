/- Draws: the next number of a list of numbers. -/
import Derived.Test.YtfcoblapbcdaiaaW
namespace Go.Proofs.Ytfcoblapbcdaiaa
open Go.RowKit Go.Lib
/-- A slice of numbers. -/
def RowN (w : World) (v : Value) (xs : List Int) : Prop :=
  ∃ a cap, v = .slice a xs.length cap ∧ xs.length ≤ cap ∧ (cap : Int) ≤ 9223372036854775807 ∧ (xs = [] ∨ ∃ b o, a = some ⟨b, o, none⟩ ∧ ∀ i x, xs[i]? = some x → w.cell? ⟨b, o + i, none⟩ = some (.int .i64 x))
theorem RowN.later {w w' : World} {v : Value} {xs : List Int} (h : RowN w v xs) (g : Grows w w') : RowN w' v xs := by
  obtain ⟨a, cap, h1, h2, h3, h4⟩ := h
  refine ⟨a, cap, h1, h2, h3, h4.imp id ?_⟩
  rintro ⟨b, o, e, h⟩
  exact ⟨b, o, e, fun i x hx => (g.cell (World.block_lt_of_cell? w _ (h i x hx))).trans (h i x hx)⟩

/-- The heap is what it was but for block b, and may have grown. -/
def Oth (b : Nat) (w w' : World) : Prop := w.heap.size ≤ w'.heap.size ∧ ∀ k, k ≠ b → k < w.heap.size → w'.heap[k]? = w.heap[k]?
theorem Oth.refl (b : Nat) (w : World) : Oth b w w := ⟨Nat.le_refl _, fun _ _ _ => rfl⟩
theorem Oth.of {b : Nat} {w w' : World} (g : Grows w w') : Oth b w w' := ⟨g.size, fun k _ hk => g.block k hk⟩
theorem Oth.then {b : Nat} {w w' w'' : World} (h : Oth b w w') (g : Oth b w' w'') : Oth b w w'' := ⟨Nat.le_trans h.1 g.1, fun k hk hl => (g.2 k hk (Nat.lt_of_lt_of_le hl h.1)).trans (h.2 k hk hl)⟩
theorem Oth.set (b i : Nat) (w : World) (u : Value) : Oth b w (w.setCell ⟨b, i, none⟩ u) := ⟨Nat.le_of_eq (World.size_setCell ..).symm, fun k hk _ => Below.heap_setCell w ⟨b, i, none⟩ u k hk⟩
set_option linter.unusedSimpArgs false in
set_option maxRecDepth 100000 in
set_option maxHeartbeats 4000000 in
theorem next_any {w0 w : World} {b : Nat} {bs : List (Nat × List Value)} {v : Value} {xs : List Int} {t : Int} (C : Has w0 ((b, [v, .int .i64 t]) :: bs) w) (R : RowN w0 v xs) (ht : 0 ≤ t) (m : Int) (hm : 1 ≤ m) (hm' : m ≤ 1000) :
    Calls Try.prog 26 #[.pointer (some ⟨b, 0, none⟩), .int .i64 m] w fun e w' => ∃ r t', e = .returned (.int .i64 r) ∧ 0 ≤ r ∧ r < m ∧ 0 ≤ t' ∧ Has w0 ((b, [v, .int .i64 t']) :: bs) w' ∧ Oth b w w' := by
  have R0 := R.later C.low
  obtain ⟨a, cap, rfl, h1, h2, -⟩ := R0
  obtain ⟨a', cap', e', -, -, h3⟩ := R
  simp only [Value.slice.injEq, true_and] at e'
  obtain ⟨rfl, rfl⟩ := e'
  have C1 := C.drew
  obtain ⟨c0, c1⟩ := C1.pt
  by_cases hlt : t < (xs.length : Int)
  · have hx : ∃ bb o, a = some ⟨bb, o, none⟩ ∧ ∀ i x, xs[i]? = some x → w0.cell? ⟨bb, o + i, none⟩ = some (.int .i64 x) := by
      rcases h3 with rfl | h3
      · simp at hlt; omega
      · exact h3
    obtain ⟨bb, o, rfl, hx⟩ := hx
    have b1 : decide (t ≥ (xs.length : Int)) = false := decide_eq_false (by omega)
    clear h3
    obtain ⟨y, hy⟩ : ∃ y, xs[t.toNat]? = some y := ⟨_, List.getElem?_eq_getElem (by omega)⟩
    have HC := Lib.hid (hx _ _ hy)
    generalize hn : xs.length = n at *
    have w1 : wrap64 (t + 1) = t + 1 := IntWalk.wrap64_in _ ⟨by omega, by omega⟩
    have w3' : IntKind.i64.wrap t = t := by rw [IntKind.wrap_i64]; omega
    have w2 : IntKind.i64.wrap (t + 1) = t + 1 := by rw [IntKind.wrap_i64]; omega
    clear hx hy
    have f1 := C1.free (.head _) (i := 1) rfl
    go_enter Try.func26, Try.ntmps26
    go_wp2_with fail
    go_region
    go_wp2_with fail
    have C2 := (C.set 1 (by simp) (.int .i64 (t + 1))).drew
    clear c0 c1 f1
    change Has w0 ((b, [.slice (some ⟨bb, o, none⟩) n cap, .int .i64 (t + 1)]) :: bs) ((w.setCell ⟨b, 1, none⟩ (.int .i64 (t + 1))).drew) at C2
    have C2 := C2.drew
    have O2 : Oth b w (w.setCell ⟨b, 1, none⟩ (.int .i64 (t + 1))).drew.drew := (Oth.set b 1 w _).then (Oth.of (((Below.refl _ _).drew).drew))
    have HS := Lib.hid (show ∀ w', Has w0 ((b, [.slice (some ⟨bb, o, none⟩) n cap, .int .i64 (t + 1)]) :: bs) w' → (w'.cell? ⟨b, 0, none⟩ = some (.slice (some ⟨bb, o, none⟩) n cap) ∧ w'.cell? ⟨b, 1, none⟩ = some (.int .i64 (t + 1)) ∧ w'.cell? ⟨bb, o + t.toNat, none⟩ = some (.int .i64 y)) ∧ Has w0 ((b, [.slice (some ⟨bb, o, none⟩) n cap, .int .i64 (t + 1)]) :: bs) w' from fun w' h => by
      exact ⟨⟨h.fact (.head _) (i := 0) rfl, h.fact (.head _) (i := 1) rfl, (h.low.cell (World.block_lt_of_cell? _ _ HC.out)).trans HC.out⟩, h⟩)
    refine wp_region_held_drew (S := (fun w' => (w'.cell? ⟨b, 0, none⟩ = some (.slice (some ⟨bb, o, none⟩) n cap) ∧ w'.cell? ⟨b, 1, none⟩ = some (.int .i64 (t + 1)) ∧ w'.cell? ⟨bb, o + t.toNat, none⟩ = some (.int .i64 y)) ∧ Has w0 ((b, [.slice (some ⟨bb, o, none⟩) n cap, .int .i64 (t + 1)]) :: bs) w')) (by kernel_rfl) (HS.out _ C2) (fun hHeld => ?_)
    refine wpAnyT_begin [0, 1, 2, 3, 4, 5, 6, 7, 8, 9, 10, 11] (by kernel_rfl) (by kernel_rfl) ?_
    refine wpAnyT_take (oi := ⟨some 22, Op.move (Operand.tmp 0), 53, _, _, none⟩) (v := .pointer (some ⟨b, 0, none⟩)) rfl (fun _ _ _ h => h) (by rfl) (by assumption) (fun wS hSw => ?_) ?_
    · (try dsimp only at hSw); go_simp
    simp only [Act.put, List.setIfInBounds_toArray, List.set_cons_zero, List.set_cons_succ]
    refine wpAnyT_take (oi := ⟨some 23, Op.nilCheck (Operand.tmp 22), 0, _, _, none⟩) (v := .pointer (some ⟨b, 0, none⟩)) rfl (fun _ _ _ h => h) (by rfl) (by assumption) (fun wS hSw => ?_) ?_
    · (try dsimp only at hSw); go_simp
    simp only [Act.put, List.setIfInBounds_toArray, List.set_cons_zero, List.set_cons_succ]
    refine wpAnyT_take (oi := ⟨some 24, Op.fieldAddr 55 (Operand.tmp 23) 0, 0, _, _, none⟩) (v := .pointer (some ⟨b, 0, none⟩)) rfl (fun _ _ _ h => h) (by rfl) (by assumption) (fun wS hSw => ?_) ?_
    · (try dsimp only at hSw); go_simp
    simp only [Act.put, List.setIfInBounds_toArray, List.set_cons_zero, List.set_cons_succ]
    refine wpAnyT_take (oi := ⟨some 25, Op.load 22 (Operand.tmp 24), 22, _, _, none⟩) (v := .slice (some ⟨bb, o, none⟩) n cap) rfl (fun _ _ _ h => h) (by rfl) (by assumption) (fun wS hSw => ?_) ?_
    · (try dsimp only at hSw); go_simp
    simp only [Act.put, List.setIfInBounds_toArray, List.set_cons_zero, List.set_cons_succ]
    refine wpAnyT_take (oi := ⟨some 26, Op.move (Operand.tmp 0), 53, _, _, none⟩) (v := .pointer (some ⟨b, 0, none⟩)) rfl (fun _ _ _ h => h) (by rfl) (by assumption) (fun wS hSw => ?_) ?_
    · (try dsimp only at hSw); go_simp
    simp only [Act.put, List.setIfInBounds_toArray, List.set_cons_zero, List.set_cons_succ]
    refine wpAnyT_take (oi := ⟨some 27, Op.nilCheck (Operand.tmp 26), 0, _, _, none⟩) (v := .pointer (some ⟨b, 0, none⟩)) rfl (fun _ _ _ h => h) (by rfl) (by assumption) (fun wS hSw => ?_) ?_
    · (try dsimp only at hSw); go_simp
    simp only [Act.put, List.setIfInBounds_toArray, List.set_cons_zero, List.set_cons_succ]
    refine wpAnyT_take (oi := ⟨some 28, Op.fieldAddr 55 (Operand.tmp 27) 1, 0, _, _, none⟩) (v := .pointer (some ⟨b, 1, none⟩)) rfl (fun _ _ _ h => h) (by rfl) (by assumption) (fun wS hSw => ?_) ?_
    · (try dsimp only at hSw); go_simp
    simp only [Act.put, List.setIfInBounds_toArray, List.set_cons_zero, List.set_cons_succ]
    refine wpAnyT_take (oi := ⟨some 29, Op.load 3 (Operand.tmp 28), 3, _, _, none⟩) (v := .int .i64 (t + 1)) rfl (fun _ _ _ h => h) (by rfl) (by assumption) (fun wS hSw => ?_) ?_
    · (try dsimp only at hSw); go_simp
    simp only [Act.put, List.setIfInBounds_toArray, List.set_cons_zero, List.set_cons_succ]
    refine wpAnyT_take (oi := ⟨some 30, Op.binOp BinOp.sub 3 (Operand.tmp 29) (Operand.const (Value.int IntKind.i64 1)) 3, 3, _, _, none⟩) (v := .int .i64 t) rfl (fun _ _ _ h => h) (by rfl) (by assumption) (fun wS hSw => ?_) ?_
    · (try dsimp only at hSw); go_simp
    simp only [Act.put, List.setIfInBounds_toArray, List.set_cons_zero, List.set_cons_succ]
    refine wpAnyT_take (oi := ⟨some 31, Op.indexAddr 22 (Operand.tmp 25) (Operand.tmp 30), 0, _, _, none⟩) (v := .pointer (some ⟨bb, o + t.toNat, none⟩)) rfl (fun _ _ _ h => h) (by rfl) (by assumption) (fun wS hSw => ?_) ?_
    · (try dsimp only at hSw); go_simp
    simp only [Act.put, List.setIfInBounds_toArray, List.set_cons_zero, List.set_cons_succ]
    refine wpAnyT_take (oi := ⟨some 32, Op.load 3 (Operand.tmp 31), 3, _, _, none⟩) (v := .int .i64 y) rfl (fun _ _ _ h => h) (by rfl) (by assumption) (fun wS hSw => ?_) ?_
    · (try dsimp only at hSw); go_simp
    simp only [Act.put, List.setIfInBounds_toArray, List.set_cons_zero, List.set_cons_succ]
    refine wpAnyT_take (oi := ⟨some 33, Op.move (Operand.tmp 1), 3, _, _, none⟩) (v := .int .i64 m) rfl (fun _ _ _ h => h) (by rfl) (by assumption) (fun wS hSw => ?_) ?_
    · (try dsimp only at hSw); go_simp
    simp only [Act.put, List.setIfInBounds_toArray, List.set_cons_zero, List.set_cons_succ]
    refine wpAnyT_end ?_
    refine wpAnyH_listed #[true, true, true, true, true, true, true, true, true, true, true, true, false, false] (by kernel_rfl) ?_
    refine wpAnyH_ready (rs := [12]) (by kernel_rfl) (by simp) ?_
    refine AllReadyH.cons (o := ⟨some 34, Op.call { callee := Callee.value (Operand.func 37), args := #[Operand.tmp 32, Operand.tmp 33], argTypes := #[3, 3] }, 3, _, _, none⟩) rfl (fun K hK => ?_) AllReadyH.nil
    go_simp
    go_at_call 37
    refine (show Calls Try.prog 37 #[.int .i64 y, .int .i64 m] _ fun e w' => e = .returned (.int .i64 (y % m)) ∧ (Has w0 ((b, [.slice (some ⟨bb, o, none⟩) n cap, .int .i64 (t + 1)]) :: bs) w' ∧ Oth b w w') from (mod_any y m _ hm (by omega)).mono (by rintro _ _ ⟨h1, rfl⟩; exact ⟨h1, C2, O2⟩)).mono ?_
    rintro e w3 ⟨rfl, C3⟩
    go_wp2_with fail
    clear hHeld
    refine hK.out _ _ (HS.out _ C3.1) (fun hHeld => ?_)
    clear hK K
    try simp only [List.setIfInBounds_toArray, List.set_cons_zero, List.set_cons_succ]
    refine wpAnyH_listed #[true, true, true, true, true, true, true, true, true, true, true, true, true, false] (by kernel_rfl) ?_
    refine wpAnyT_begin [13] (by kernel_rfl) (by kernel_rfl) ?_
    refine wpAnyT_take (oi := ⟨some 4, Op.assign (Operand.tmp 34), 3, _, _, none⟩) (v := .int .i64 (y % m)) rfl (fun _ _ _ h => h) (by rfl) (by assumption) (fun wS hSw => ?_) ?_
    · (try dsimp only at hSw); go_simp
    simp only [Act.put, List.setIfInBounds_toArray, List.set_cons_zero, List.set_cons_succ]
    refine wpAnyT_end ?_
    refine wpAnyH_listed #[true, true, true, true, true, true, true, true, true, true, true, true, true, true] (by kernel_rfl) ?_
    refine wpAnyH_done (by kernel_rfl) ?_ _
    clear hHeld
    go_wp2_with fail
    exact bodyPost_ret (v := .int .i64 (y % m)) (by simp [results, Try.results26, go_sem]) rfl ⟨y % m, t + 1, rfl, Int.emod_nonneg _ (by omega), Int.emod_lt_of_pos _ (by omega), by omega, C3.1, C3.2⟩
  · have b1 : decide (t ≥ (xs.length : Int)) = true := decide_eq_true (by omega)
    clear h3
    generalize hn : xs.length = n at *
    clear hn
    go_enter Try.func26, Try.ntmps26
    go_wp2_with fail
    go_region
    go_wp2_with fail
    exact bodyPost_ret (v := .int .i64 0) (by simp [results, Try.results26, go_sem]) rfl ⟨0, t, rfl, by omega, by omega, ht, C1, Oth.of ((Below.refl _ w).drew)⟩

theorem Oth.new {D : Nat} {w w' : World} (h : Oth D w w') {B : Nat} (hB : w.heap.size ≤ B) (i : Nat) (u : Value) : Oth D w (w'.setCell ⟨B, i, none⟩ u) :=
  ⟨by rw [World.size_setCell]; exact h.1, fun k hk hl => by rw [← h.2 k hk hl]; exact (Oth.set B i w' u).2 k (by omega) (Nat.lt_of_lt_of_le hl h.1)⟩
theorem Oth.grows {D : Nat} {w w' w'' : World} (h : Oth D w w') (g : Grows w' w'') : Oth D w w'' := h.then (Oth.of g)
theorem Oth.cell {b A i : Nat} {w w' : World} (O : Oth b w w') (hne : A ≠ b) (hlt : A < w.heap.size) : w'.cell? ⟨A, i, none⟩ = w.cell? ⟨A, i, none⟩ := by
  unfold World.cell?
  simp only [O.2 A hne hlt]
theorem Oth.thenNew {D B : Nat} {w w' w'' : World} (h : Oth D w w') (hB : w.heap.size ≤ B) (g : Oth B w' w'') : Oth D w w'' :=
  ⟨Nat.le_trans h.1 g.1, fun k hk hl => (g.2 k (by omega) (Nat.lt_of_lt_of_le hl h.1)).trans (h.2 k hk hl)⟩

theorem flat_int (xs : List Int) : xs.flatMap tI.enc = xs.map (fun x => Value.int .i64 x) := by
  induction xs with
  | nil => rfl
  | cons x xs ih => rw [List.flatMap_cons, ih]; rfl
theorem Row.num {w : World} {v : Value} {xs : List Int} (h : Row tI w v xs) : RowN w v xs := by
  obtain ⟨a, c, h1, h2, h3, h4⟩ := h
  refine ⟨a, c, h1, h2, h3, h4.imp id ?_⟩
  rintro ⟨b, o, e, q⟩
  exact ⟨b, o, e, fun i x hx => q i _ (by rw [flat_int, List.getElem?_map, hx]; rfl)⟩
end Go.Proofs.Ytfcoblapbcdaiaa
