/- What orders the places that Find found; regions that draw their order: many operations taken first under one check. -/
import Derived.Test.YtiliommilcifeaaO
namespace Go.Proofs.Ytiliommilcifeaa
open Go.RowKit Go.Lib Go.Sort
section
variable {P : Program} {md : Region.Mode} {ops : Array Oper} {Q : Exit → Act → World → Prop} {S T : World → Prop}

/-- A region's condition may be made stronger in its midst. -/
theorem wpAnyH_more (hT : ∀ w, T w → S w) :
    ∀ (fuel : Nat) (listed : Array Bool) (a : Act) (w : World), wpAnyH P md ops Q T fuel listed a w → wpAnyH P md ops Q S fuel listed a w
  | 0, _, _, _, h => h
  | fuel + 1, _, _, _, h => ⟨h.1, fun i hi => wpOp_mono (fun a' w' h' => ⟨hT _ h'.1, wpAnyH_more hT fuel _ a' w' h'.2⟩) (h.2 i hi)⟩

/-- What has come up, written anew. -/
theorem wpAnyH_listed {fuel : Nat} {listed : Array Bool} {a : Act} {w : World} (listed' : Array Bool) (h : listed = listed') (k : wpAnyH P md ops Q S fuel listed' a w) : wpAnyH P md ops Q S fuel listed a w := by
  rw [h]; exact k

/-- These may be taken first, one behind the other. -/
def takesOk (md : Region.Mode) (ops : Array Oper) : Array Bool → List Nat → Bool
  | _, [] => true
  | listed, i :: is => Region.free md ops listed i && ((Region.ready md ops listed).contains i && takesOk md ops (listed.setIfInBounds i true) is)

/-- The walk while they are taken. -/
def wpAnyT (P : Program) (md : Region.Mode) (ops : Array Oper) (Q : Exit → Act → World → Prop) (S : World → Prop) (is : List Nat) (fuel : Nat) (listed : Array Bool) (a : Act) (w : World) : Prop :=
  takesOk md ops listed is = true → Region.noSelect ops = true → wpAnyH P md ops Q S fuel listed a w

theorem wpAnyT_begin {fuel : Nat} {listed : Array Bool} {a : Act} {w : World} (is : List Nat) (ht : takesOk md ops listed is = true) (hn : Region.noSelect ops = true) (h : wpAnyT P md ops Q S is fuel listed a w) : wpAnyH P md ops Q S fuel listed a w := h ht hn
theorem wpAnyT_end {fuel : Nat} {listed : Array Bool} {a : Act} {w : World} (h : wpAnyH P md ops Q S fuel listed a w) : wpAnyT P md ops Q S [] fuel listed a w := fun _ _ => h
theorem wpAnyT_take {i : Nat} {is : List Nat} {oi : Oper} {v : Value} {fuel : Nat} {listed : Array Bool} {a : Act} {w : World} (hi : ops[i]? = some oi)
    (hQ : ∀ c a w, Q (.panic c) (a.put oi.dst v) w → Q (.panic c) a w) (hw : Region.wanted oi (yielded ops a.tmps) = true) (hS : S w) (hy : ∀ w, S w → (execOp a.eval oi).run P w = .ok (.value v) w)
    (h : wpAnyT P md ops Q S is fuel (listed.setIfInBounds i true) (a.put oi.dst v) w) : wpAnyT P md ops Q S (i :: is) (fuel + 1) listed a w := by
  intro ht hn
  simp only [takesOk, Bool.and_eq_true] at ht
  exact wpAnyH_take hi hn ht.1 ht.2.1 hQ (Or.inl ⟨hw, hy⟩) hS (h ht.2.2 hn)
theorem wpAnyT_skip {i : Nat} {is : List Nat} {oi : Oper} {fuel : Nat} {listed : Array Bool} {a : Act} {w : World} (hi : ops[i]? = some oi)
    (hQ : ∀ c a w, Q (.panic c) (a.put oi.dst undef) w → Q (.panic c) a w) (hw : Region.wanted oi (yielded ops a.tmps) = false) (hS : S w)
    (h : wpAnyT P md ops Q S is fuel (listed.setIfInBounds i true) (a.put oi.dst undef) w) : wpAnyT P md ops Q S (i :: is) (fuel + 1) listed a w := by
  intro ht hn
  simp only [takesOk, Bool.and_eq_true] at ht
  exact wpAnyH_take hi hn ht.1 ht.2.1 hQ (Or.inr ⟨hw, rfl⟩) hS (h ht.2.2 hn)
end
theorem Lays.trans {a b c : World} (h : Lays a b) (g : Lays b c) : Lays a c := by
  obtain ⟨q, os, rfl⟩ := h
  obtain ⟨q', os', rfl⟩ := g
  refine ⟨q + q', os ++ os', ?_⟩
  rw [← grow_grow, ← World.drewN_drewN]
  congr 1
theorem Lays.refl (w : World) : Lays w w := Lays.of_drew w 0
def cmpP (a b : Pl) : Int := cmpK a.key b.key
theorem cmpP_w {a b : Pl} (h : ¬ a.w = b.w) : cmpI b.w a.w = cmpP a b := by unfold cmpP cmpK Pl.key; rw [if_neg h]
theorem cmpP_n {a b : Pl} (h : a.w = b.w) : (if cmpN a.nm b.nm = 0 then cmpI a.id b.id else cmpN a.nm b.nm) = cmpP a b := by unfold cmpP cmpK Pl.key; rw [if_pos h]
set_option maxRecDepth 100000 in
set_option maxHeartbeats 4000000 in
theorem cmpp_any (a b : Pl) (ha : Fits a.nm) (w : World) : Calls Try.prog 33 #[.agg a.cells.toArray, .agg b.cells.toArray] w fun e w' => e = .returned (.int .i64 (cmpP a b)) ∧ Lays w w' := by
  have hH : Has w [(w.heap.size, a.cells), (w.heap.size + 1, b.cells)] ((w.alloc (.cells a.cells.toArray 36)).alloc (.cells b.cells.toArray 36)) := has2 _ _ 36 36
  have HL2 := Lib.hid (((Lays.refl w).alloc (.cells a.cells.toArray 36)).alloc (.cells b.cells.toArray 36))
  have HN := Lib.hid (cmpn_any a.nm b.nm ha)
  have HI := Lib.hid (comparei_any a.id b.id)
  have HM0 := Lib.hid (fun w2 w' (hH : Has w [(w.heap.size, a.cells), (w.heap.size + 1, b.cells)] w2) (h : Lays w2 w') => show (w'.cell? ⟨w.heap.size, 4, none⟩ = some (str a.nm) ∧ w'.cell? ⟨w.heap.size + 1, 4, none⟩ = some (str b.nm) ∧ w'.cell? ⟨w.heap.size, 0, none⟩ = some (.int .i64 a.id) ∧ w'.cell? ⟨w.heap.size + 1, 0, none⟩ = some (.int .i64 b.id)) ∧ Lays w2 w' from by
    have h2 := hH.later h.grows
    exact ⟨⟨h2.fact (.head _) (i := 4) rfl, h2.tail.fact (.head _) (i := 4) rfl, h2.fact (.head _) (i := 0) rfl, h2.tail.fact (.head _) (i := 0) rfl⟩, h⟩)
  have c0 := hH.fact (.head _) (i := 5) rfl
  have c1 := hH.tail.fact (.head _) (i := 5) rfl
  unfold Pl.cells at *
  simp only [] at c0 c1
  by_cases h : a.w = b.w
  · have z0 : (a.w != b.w) = false := by simpa using h
    have HE := Lib.hid (cmpP_n h)
    clear h
    generalize hrn : cmpN a.nm b.nm = rn at *
    generalize hri : cmpI a.id b.id = ri at *
    clear hrn hri
    go_enter Try.func33, Try.ntmps33
    go_upto_region 3 with fail
    generalize hw2 : ((w.alloc _).alloc _) = w2 at *
    have HM := Lib.hid (fun w' => HM0.out w2 w' hH)
    generalize hA : w.heap.size = A at *
    generalize hB : A + 1 = B at *
    clear hH hw2 hA hB HM0 c0 c1 z0
    refine wp_region_held_drew (S := (fun w' => (w'.cell? ⟨A, 4, none⟩ = some (str a.nm) ∧ w'.cell? ⟨B, 4, none⟩ = some (str b.nm) ∧ w'.cell? ⟨A, 0, none⟩ = some (.int .i64 a.id) ∧ w'.cell? ⟨B, 0, none⟩ = some (.int .i64 b.id)) ∧ Lays w2 w')) (by kernel_rfl) (HM.out _ (Lays.of_drew w2 1)) (fun hHeld => ?_)
    refine wpAnyT_begin [0, 1, 2, 3, 5, 6, 7, 8] (by kernel_rfl) (by kernel_rfl) ?_
    refine wpAnyT_take (oi := ⟨some 15, Op.fieldAddr 36 (Operand.tmp 2) 3, 0, _, _, none⟩) (v := .pointer (some ⟨A, 4, none⟩)) rfl (fun _ _ _ h => h) (by rfl) (by assumption) (fun wS hSw => ?_) ?_
    · (try dsimp only at hSw); go_simp
    simp only [Act.put, List.setIfInBounds_toArray, List.set_cons_zero, List.set_cons_succ]
    refine wpAnyT_take (oi := ⟨some 16, Op.load 9 (Operand.tmp 15), 9, _, _, none⟩) (v := str a.nm) rfl (fun _ _ _ h => h) (by rfl) (by assumption) (fun wS hSw => ?_) ?_
    · (try dsimp only at hSw); go_simp
    simp only [Act.put, List.setIfInBounds_toArray, List.set_cons_zero, List.set_cons_succ]
    refine wpAnyT_take (oi := ⟨some 17, Op.fieldAddr 36 (Operand.tmp 3) 3, 0, _, _, none⟩) (v := .pointer (some ⟨B, 4, none⟩)) rfl (fun _ _ _ h => h) (by rfl) (by assumption) (fun wS hSw => ?_) ?_
    · (try dsimp only at hSw); go_simp
    simp only [Act.put, List.setIfInBounds_toArray, List.set_cons_zero, List.set_cons_succ]
    refine wpAnyT_take (oi := ⟨some 18, Op.load 9 (Operand.tmp 17), 9, _, _, none⟩) (v := str b.nm) rfl (fun _ _ _ h => h) (by rfl) (by assumption) (fun wS hSw => ?_) ?_
    · (try dsimp only at hSw); go_simp
    simp only [Act.put, List.setIfInBounds_toArray, List.set_cons_zero, List.set_cons_succ]
    refine wpAnyT_take (oi := ⟨some 20, Op.fieldAddr 36 (Operand.tmp 2) 0, 0, _, _, none⟩) (v := .pointer (some ⟨A, 0, none⟩)) rfl (fun _ _ _ h => h) (by rfl) (by assumption) (fun wS hSw => ?_) ?_
    · (try dsimp only at hSw); go_simp
    simp only [Act.put, List.setIfInBounds_toArray, List.set_cons_zero, List.set_cons_succ]
    refine wpAnyT_take (oi := ⟨some 21, Op.load 3 (Operand.tmp 20), 3, _, _, none⟩) (v := .int .i64 a.id) rfl (fun _ _ _ h => h) (by rfl) (by assumption) (fun wS hSw => ?_) ?_
    · (try dsimp only at hSw); go_simp
    simp only [Act.put, List.setIfInBounds_toArray, List.set_cons_zero, List.set_cons_succ]
    refine wpAnyT_take (oi := ⟨some 22, Op.fieldAddr 36 (Operand.tmp 3) 0, 0, _, _, none⟩) (v := .pointer (some ⟨B, 0, none⟩)) rfl (fun _ _ _ h => h) (by rfl) (by assumption) (fun wS hSw => ?_) ?_
    · (try dsimp only at hSw); go_simp
    simp only [Act.put, List.setIfInBounds_toArray, List.set_cons_zero, List.set_cons_succ]
    refine wpAnyT_take (oi := ⟨some 23, Op.load 3 (Operand.tmp 22), 3, _, _, none⟩) (v := .int .i64 b.id) rfl (fun _ _ _ h => h) (by rfl) (by assumption) (fun wS hSw => ?_) ?_
    · (try dsimp only at hSw); go_simp
    simp only [Act.put, List.setIfInBounds_toArray, List.set_cons_zero, List.set_cons_succ]
    refine wpAnyT_end ?_
    refine wpAnyH_listed #[true, true, true, true, false, true, true, true, true, false, false, false, false] (by kernel_rfl) ?_
    refine wpAnyH_ready (rs := [4]) (by kernel_rfl) (by simp) ?_
    refine AllReadyH.cons (o := ⟨some 19, Op.call { callee := Callee.value (Operand.func 30), args := #[Operand.tmp 16, Operand.tmp 18], argTypes := #[9, 9] }, 3, _, _, none⟩) rfl (fun K hK => ?_) AllReadyH.nil
    go_simp
    go_at_call 30
    refine (HN.out _).mono ?_
    rintro e W3 ⟨rfl, hC⟩
    go_wp2_with fail
    clear hHeld
    refine hK.out _ _ (HM.out _ ((Lays.of_drew w2 1).trans hC)) (fun hHeld => ?_)
    clear hK K
    try simp only [List.setIfInBounds_toArray, List.set_cons_zero, List.set_cons_succ]
    refine wpAnyH_listed #[true, true, true, true, true, true, true, true, true, false, false, false, false] (by kernel_rfl) ?_
    refine wpAnyH_ready (rs := [9]) (by kernel_rfl) (by simp) ?_
    refine AllReadyH.cons (o := ⟨some 24, Op.call { callee := Callee.value (Operand.func 34), args := #[Operand.tmp 21, Operand.tmp 23], argTypes := #[3, 3] }, 3, _, _, none⟩) rfl (fun K hK => ?_) AllReadyH.nil
    go_simp
    go_at_call 34
    refine (HI.out _).mono ?_
    rintro e W4 ⟨rfl, rfl⟩
    go_wp2_with fail
    clear hHeld
    refine hK.out _ _ (HM.out _ ((Lays.of_drew w2 1).trans hC)) (fun hHeld => ?_)
    clear hK K
    try simp only [List.setIfInBounds_toArray, List.set_cons_zero, List.set_cons_succ]
    refine wpAnyH_listed #[true, true, true, true, true, true, true, true, true, true, false, false, false] (by kernel_rfl) ?_
    refine wpAnyH_ready (rs := [10]) (by kernel_rfl) (by simp) ?_
    refine AllReadyH.cons (o := ⟨some 25, Op.buildSlice 44 2 #[(0, Operand.tmp 19), (1, Operand.tmp 24)], 44, _, _, none⟩) rfl (fun K hK => ?_) AllReadyH.nil
    go_simp
    have L5 := ((Lays.of_drew w2 1).trans hC).alloc (.cells #[.int .i64 rn, .int .i64 ri] 3)
    clear hHeld
    refine hK.out _ _ (HM.out _ L5) (fun hHeld => ?_)
    clear hK K
    try simp only [List.setIfInBounds_toArray, List.set_cons_zero, List.set_cons_succ]
    refine wpAnyH_listed #[true, true, true, true, true, true, true, true, true, true, true, false, false] (by kernel_rfl) ?_
    refine wpAnyH_ready (rs := [11]) (by kernel_rfl) (by simp) ?_
    refine AllReadyH.cons (o := ⟨some 26, Op.call { callee := Callee.value (Operand.func 35), args := #[Operand.tmp 25], argTypes := #[44] }, 3, _, _, none⟩) rfl (fun K hK => ?_) AllReadyH.nil
    go_simp
    go_at_call 35
    have H1 := has1 (w := W3) [.int .i64 rn, .int .i64 ri] 3
    have HO := or_any W3.heap.size rn ri _ (H1.fact (.head _) (i := 0) rfl) (H1.fact (.head _) (i := 1) rfl)
    rw [HE.out] at HO
    refine HO.mono ?_
    rintro e W5 ⟨rfl, rfl⟩
    go_wp2_with fail
    clear hHeld
    refine hK.out _ _ (HM.out _ L5) (fun hHeld => ?_)
    clear hK K
    try simp only [List.setIfInBounds_toArray, List.set_cons_zero, List.set_cons_succ]
    refine wpAnyH_listed #[true, true, true, true, true, true, true, true, true, true, true, true, false] (by kernel_rfl) ?_
    refine wpAnyH_ready (rs := [12]) (by kernel_rfl) (by simp) ?_
    refine AllReadyH.cons (o := ⟨some 4, Op.assign (Operand.tmp 26), 3, _, _, none⟩) rfl (fun K hK => ?_) AllReadyH.nil
    go_wp2_with fail
    clear hHeld
    refine hK.out _ _ (HM.out _ L5) (fun hHeld => ?_)
    clear hK K
    try simp only [List.setIfInBounds_toArray, List.set_cons_zero, List.set_cons_succ]
    refine wpAnyH_listed #[true, true, true, true, true, true, true, true, true, true, true, true, true] (by kernel_rfl) ?_
    refine wpAnyH_done (by kernel_rfl) ?_ _

    clear hHeld
    go_wp2_with fail
    go_ret
    exact ⟨rfl, HL2.out.trans L5⟩
  · have z0 : (a.w != b.w) = true := by simpa using h
    have HE := Lib.hid (cmpP_w h)
    clear h HM0
    go_enter Try.func33, Try.ntmps33
    go_wp2_with fail
    refine (comparei_any _ _ _).mono ?_
    rintro e w3 ⟨rfl, rfl⟩
    go_wp2_with fail
    go_ret
    exact ⟨ret_i HE.out, HL2.out⟩

end Go.Proofs.Ytiliommilcifeaa
