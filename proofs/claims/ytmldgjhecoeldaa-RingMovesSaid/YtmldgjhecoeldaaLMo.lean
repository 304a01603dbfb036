/- The law of RingMoves. -/
import Derived.Test.YtmldgjhecoeldaaLMm
namespace Go.Proofs.Ytmldgjhecoeldaa
open Go.RowKit Go.Lib

set_option linter.unusedSimpArgs false in
set_option linter.unusedVariables false in
set_option maxRecDepth 100000 in
set_option maxHeartbeats 16000000 in
theorem moves_any (v : Value) (xs : List Int) (cm : Bool) (c1 c2 c3 c4 x2 y2 x3 y3 : Int) (w : World) (R : RowN w v xs) (bc1 : 0 ≤ c1 ∧ c1 ≤ 255) (bc4 : 0 ≤ c4 ∧ c4 ≤ 255) (bc2 : (-9223372036854775808 ≤ c2 ∧ c2 ≤ 9223372036854775807)) (bc3 : (-9223372036854775808 ≤ c3 ∧ c3 ≤ 9223372036854775807)) (bx2 : (-9223372036854775808 ≤ x2 ∧ x2 ≤ 9223372036854775807)) (by2 : (-9223372036854775808 ≤ y2 ∧ y2 ≤ 9223372036854775807)) (bx3 : (-9223372036854775808 ≤ x3 ∧ x3 ≤ 9223372036854775807)) (by3 : (-9223372036854775808 ≤ y3 ∧ y3 ≤ 9223372036854775807)) :
    Calls Try.prog 8 #[v, .agg #[.bool cm, .int .u8 c1, .int .i64 c2, .int .i64 c3, .int .u8 c4], .agg #[.int .i64 x2, .int .i64 y2], .agg #[.int .i64 x3, .int .i64 y3]] w fun e w' => e = .returned (.bool true) ∧ Below w.heap.size w w' := by
  have HRN := Lib.hid R
  clear R
  have C0 := (((Has.nil (Below.refl w.heap.size w)).push [.bool cm, .int .u8 c1, .int .i64 c2, .int .i64 c3, .int .u8 c4] 48).push [.int .i64 x2, .int .i64 y2] 24).push [.int .i64 x3, .int .i64 y3] 24
  rw [size_alloc, size_alloc] at C0
  change Has w [(w.heap.size + 2, [.int .i64 x3, .int .i64 y3]), (w.heap.size + 1, [.int .i64 x2, .int .i64 y2]), (w.heap.size, [.bool cm, .int .u8 c1, .int .i64 c2, .int .i64 c3, .int .u8 c4])] (((w.alloc (.cells #[.bool cm, .int .u8 c1, .int .i64 c2, .int .i64 c3, .int .u8 c4] 48)).alloc (.cells #[.int .i64 x2, .int .i64 y2] 24)).alloc (.cells #[.int .i64 x3, .int .i64 y3] 24)) at C0
  go_enter Try.func8, Try.ntmps8
  go_wp2_with fail
  generalize ((w.alloc (.cells #[.bool cm, .int .u8 c1, .int .i64 c2, .int .i64 c3, .int .u8 c4] 48)).alloc (.cells #[.int .i64 x2, .int .i64 y2] 24)).alloc (.cells #[.int .i64 x3, .int .i64 y3] 24) = w0 at *
  obtain ⟨A, hA⟩ : ∃ A, w.heap.size = A := ⟨_, rfl⟩
  obtain ⟨B, hB⟩ : ∃ B, A + 1 = B := ⟨_, rfl⟩
  obtain ⟨P, hP⟩ : ∃ P, B + 1 = P := ⟨_, rfl⟩
  have hP2 : A + 2 = P := by omega
  rw [hA, hB, hP2] at C0
  clear hP2
  simp only [hA]
  simp only [hB]
  simp only [hP]
  have D0 := C0
  clear C0
  refine (Has.call D0 (sane_any w0)).mono ?_
  rintro e w1 ⟨rfl, D1⟩
  clear D0
  have gE : Grows w1 (w1.alloc (.cells #[] 24)) := (Below.refl _ w1).alloc (Nat.le_refl _) _
  have hE := Own.empty (w := w1) w1.heap.size rfl
  go_wp2_with fail
  refine (made_ring v xs _ ((HRN.out.later D1.low).later gE)).mono ?_
  rintro e w2 ⟨s0, r, rfl, hO, hM, g2⟩
  have R0 := hO.row
  obtain ⟨l3, l10, -⟩ := hM.facts
  have HB := Lib.hid hM.bdd
  have G2 : Grows w1 w2 := gE.trans (g2.mono gE.size)
  have E2 := hE.later g2
  obtain ⟨a0, c0, rfl⟩ := row_form R0
  have hl0 : ([] : List (Int × Int)).length + r.length ≤ 100000 := by simp; omega
  clear hM hO gE hE g2
  go_wp2_with (at_builtin; refine wpList_append_pts rfl _ _ rfl rfl E2 rfl R0 hl0 G2.size ?_)
  intro u3 w3 O3 G3
  have G := grow_append G2 E2 (Nat.le_refl _) G3
  try rw [List.nil_append] at O3
  have D3 := D1.later G
  have hPlt : P < w1.heap.size := D1.lt _ (.head _)
  have hBlt : B < w1.heap.size := D1.lt _ (.tail _ (.head _))
  clear R0 G2 E2 G3 hl0
  obtain ⟨g, c5, rfl, hg1, -⟩ := O3.form (by omega)
  obtain ⟨T, hTm, hT⟩ : ∃ T : Nat, c4.tmod 4 = (T : Int) ∧ T ≤ 3 := by
    obtain ⟨T, h1, h2⟩ := idx_of c4 4 bc4.1 (by omega)
    exact ⟨T, h1, by omega⟩
  obtain ⟨N, hN⟩ : ∃ N, r.length = N := ⟨_, rfl⟩
  have HN := Lib.hid hN
  have hHE := Lib.hid hN
  rw [hN] at O3 l3 l10 ⊢
  clear hN
  have wc4 : IntKind.i64.wrap c4 = c4 := IntWalk.i64_in _ (by omega)
  obtain ⟨b0, hb0⟩ : ∃ b0, w1.heap.size = b0 := ⟨_, rfl⟩
  have m0 : w3.cell? ⟨A, 0, none⟩ = some (.bool cm) := D3.fact (.tail _ (.tail _ (.head _))) (i := 0) rfl
  cases cm with
  | false =>
    go_upto_region 5 with fail
    clear m0
    obtain ⟨k0, k1⟩ : w3.cell? ⟨P, 0, none⟩ = some (.int .i64 x3) ∧ w3.cell? ⟨P, 1, none⟩ = some (.int .i64 y3) := ⟨D3.fact (.head _) (i := 0) rfl, D3.fact (.head _) (i := 1) rfl⟩
    go_wp2_with fail
    refine (calls_two D3 (at_any _ _ _)).mono ?_
    rintro e w10 ⟨rfl, C10, g10⟩
    have O10 := O3.later g10
    clear k0 k1 D3 O3 g10
    have bpx := tmod_abs x3 30 (by omega)
    have bpy := tmod_abs y3 30 (by omega)
    generalize x3.tmod 30 = px at *
    generalize y3.tmod 30 = py at *
    have k0 := C10.fact (.head _) (i := 0) rfl
    have k1 := C10.fact (.head _) (i := 1) rfl
    have f0 := C10.free (.head _) (i := 0) rfl
    have f1 := C10.free (.head _) (i := 1) rfl
    go_upto_region 6 with fail
    have C11 := C10.set2 (.int .i64 px) (.int .i64 py)
    have O11 := (Oth.set P 1 _ (.int .i64 py)).own (by omega) ((Oth.set P 0 _ (.int .i64 px)).own (by omega) O10)
    generalize (w10.setCell ⟨P, 0, none⟩ (.int .i64 px)).setCell ⟨P, 1, none⟩ (.int .i64 py) = w11 at *
    clear k0 k1 f0 f1 C10 O10
    replace C11 := C11.swap
    have k0 := C11.fact (.head _) (i := 0) rfl
    have k1 := C11.fact (.head _) (i := 1) rfl
    go_wp2_with fail
    refine (calls_two C11 (at_any _ _ _)).mono ?_
    rintro e w12 ⟨rfl, C12, g12⟩
    have O12 := O11.later g12
    clear k0 k1 C11 O11 g12
    have bux := tmod_abs x2 1000 (by omega)
    have buy := tmod_abs y2 1000 (by omega)
    generalize x2.tmod 1000 = ux at *
    generalize y2.tmod 1000 = uy at *
    have k0 := C12.fact (.head _) (i := 0) rfl
    have k1 := C12.fact (.head _) (i := 1) rfl
    have f0 := C12.free (.head _) (i := 0) rfl
    have f1 := C12.free (.head _) (i := 1) rfl
    go_upto_region 7 with fail
    have C13 := C12.set2 (.int .i64 ux) (.int .i64 uy)
    have O13 := (Oth.set B 1 _ (.int .i64 uy)).own (by omega) ((Oth.set B 0 _ (.int .i64 ux)).own (by omega) O12)
    generalize (w12.setCell ⟨B, 0, none⟩ (.int .i64 ux)).setCell ⟨B, 1, none⟩ (.int .i64 uy) = w13 at *
    clear k0 k1 f0 f1 C12 O12
    have RL := O13.row
    obtain ⟨z, hz⟩ : ∃ z, rchkP r = z := ⟨_, rfl⟩
    obtain ⟨zi, hzi⟩ : ∃ z, insP r (px, py) = z := ⟨_, rfl⟩
    obtain ⟨lw1, lw2⟩ := moves_law (l := r) hT HB.out bux buy (x := px) (y := py) (by omega) (by omega)
    rw [hz] at lw1
    rw [hzi] at lw2
    have HZ1 := Lib.hid hz
    have HI1 := Lib.hid (show insC r (px, py) = zi by rw [← hzi]; exact ins_box (by dsimp only; omega) (by dsimp only; omega))
    clear hz hzi
    obtain ⟨tp, tq', htp⟩ : ∃ a b, rotN ((T : Int) % 4).toNat px py = (a, b) := ⟨_, _, rfl⟩
    obtain ⟨qx, qy, hq⟩ : ∃ a b, mvt T ux uy (px, py) = (a, b) := ⟨_, _, rfl⟩
    obtain ⟨hqa, bqx, bqy⟩ := move_pt hT (x := px) (y := py) (by omega) (by omega) bux buy htp hq
    rw [hq] at lw2
    have HTP := Lib.hid htp
    have HQA := Lib.hid hqa
    clear htp hq hqa
    have hO0 := Own.nil w13.heap.size w13
    have hI0 : Has w13 [] w13 := Has.nil (Below.refl _ _)
    go_wp2_with fail
    go_loopw [11, 55] (fun s i wr => ∃ k : Nat, k ≤ N ∧ i = .int .i64 k ∧ Own w13.heap.size wr s ((r.map (mvt T ux uy)).take k) ∧ Has w13 [] wr) (fun _ i _ => N - (RowKit.intOf i).toNat)
    case atStart => exact ⟨0, Nat.zero_le _, rfl, hO0, hI0⟩
    case round =>
      clear hO0 hI0
      obtain ⟨k, hk, rfl, O, hI⟩ := hrel
      by_cases hlt : k < N
      · obtain ⟨x1, y1, hp⟩ := some_pt (ps := r) (k := k) (by rw [HN.out]; exact hlt)
        obtain ⟨q0, q1⟩ := (RL.later hI.low).cells hp
        rw [Nat.zero_add] at q0 q1
        have hb1 := HB.out k (by rw [HN.out]; exact hlt)
        rw [pt_of hp] at hb1
        dsimp only at hb1
        obtain ⟨tx, ty, htp⟩ : ∃ a b, rotN ((T : Int) % 4).toNat x1 y1 = (a, b) := ⟨_, _, rfl⟩
        obtain ⟨mx, my, hq⟩ : ∃ a b, mvt T ux uy (x1, y1) = (a, b) := ⟨_, _, rfl⟩
        obtain ⟨hqa, -, -⟩ := move_pt hT (x := x1) (y := y1) (by omega) (by omega) bux buy htp hq
        have HT1 := Lib.hid htp
        have HA1 := Lib.hid hqa
        have hnext := Lib.hid (show (r.map (mvt T ux uy)).take k ++ [(mx, my)] = (r.map (mvt T ux uy)).take (k + 1) by rw [← hq]; exact map_next hp)
        have hlk : ((r.map (mvt T ux uy)).take k).length + [(mx, my)].length ≤ 100000 := by rw [List.length_take]; simp; omega
        have hV : u11.ownBlock ≠ some wr.heap.size := fun e => absurd (O.lt e).2 (Nat.lt_irrefl _)
        have b2 : (k : Int) < N := by omega
        have b3 : (0 : Int) ≤ k := by omega
        have ks : IntKind.i64.wrap ((k : Int) + 1) = ((k + 1 : Nat) : Int) := by rw [IntWalk.i64_in _ (by omega)]; rfl
        have hP1 := hI.push [.int .i64 x1, .int .i64 y1] 24
        change Has w13 _ (wr.alloc (.cells #[.int .i64 x1, .int .i64 y1] 24)) at hP1
        have OP := O.later ((Below.refl _ wr).alloc (Nat.le_refl _) (.cells #[.int .i64 x1, .int .i64 y1] 24))
        clear htp hq hqa hp hI O
        go_upto_region 11 with fail
        generalize wr.alloc (.cells #[.int .i64 x1, .int .i64 y1] 24) = w14 at *
        generalize wr.heap.size = V at *
        have Cd := hP1.drew
        have Od := OP.later ((Below.refl _ w14).drew)
        have HS := Lib.hid (show ∀ w', Has w13 [(V, [.int .i64 x1, .int .i64 y1])] w' → w'.cell? ⟨V, 0, none⟩ = some (.int .i64 x1) ∧ w'.cell? ⟨V, 1, none⟩ = some (.int .i64 y1) ∧ w'.cell? ⟨A, 4, none⟩ = some (.int .u8 c4) ∧ w'.cell? ⟨B, 0, none⟩ = some (.int .i64 ux) ∧ w'.cell? ⟨B, 1, none⟩ = some (.int .i64 uy) from fun w' h => ⟨h.fact (.head _) (i := 0) rfl, h.fact (.head _) (i := 1) rfl, (C13.later h.low).fact (.tail _ (.tail _ (.head _))) (i := 4) rfl, (C13.later h.low).fact (.head _) (i := 0) rfl, (C13.later h.low).fact (.head _) (i := 1) rfl⟩)
        refine wp_region_held_drew (S := fun w' => w'.cell? ⟨V, 0, none⟩ = some (.int .i64 x1) ∧ w'.cell? ⟨V, 1, none⟩ = some (.int .i64 y1) ∧ w'.cell? ⟨A, 4, none⟩ = some (.int .u8 c4) ∧ w'.cell? ⟨B, 0, none⟩ = some (.int .i64 ux) ∧ w'.cell? ⟨B, 1, none⟩ = some (.int .i64 uy)) (by kernel_rfl) (HS.out _ Cd) (fun hHeld => ?_)
        generalize w14.drew = w15 at *
        clear hP1 OP
        refine wpAnyT_begin [0, 1, 2, 3, 4, 7] (by kernel_rfl) (by kernel_rfl) ?_
        refine wpAnyT_take (oi := ⟨some 59, Op.move (Operand.tmp 11), 25, _, _, none⟩) (v := u11) rfl (fun _ _ _ h => h) (by rfl) (by assumption) (fun wS hSw => ?_) ?_
        · (try dsimp only at hSw); go_simp
        simp only [Act.put, List.setIfInBounds_toArray, List.set_cons_zero, List.set_cons_succ]
        refine wpAnyT_take (oi := ⟨some 60, Op.load 24 (Operand.tmp 13), 24, _, _, none⟩) (v := .agg #[.int .i64 x1, .int .i64 y1]) rfl (fun _ _ _ h => h) (by rfl) (by assumption) (fun wS hSw => ?_) ?_
        · (try dsimp only at hSw); go_simp
        simp only [Act.put, List.setIfInBounds_toArray, List.set_cons_zero, List.set_cons_succ]
        refine wpAnyT_take (oi := ⟨some 61, Op.fieldAddr 48 (Operand.tmp 5) 3, 0, _, _, none⟩) (v := .pointer (some ⟨A, 4, none⟩)) rfl (fun _ _ _ h => h) (by rfl) (by assumption) (fun wS hSw => ?_) ?_
        · (try dsimp only at hSw); go_simp
        simp only [Act.put, List.setIfInBounds_toArray, List.set_cons_zero, List.set_cons_succ]
        refine wpAnyT_take (oi := ⟨some 62, Op.load 5 (Operand.tmp 61), 5, _, _, none⟩) (v := .int .u8 c4) rfl (fun _ _ _ h => h) (by rfl) (by assumption) (fun wS hSw => ?_) ?_
        · (try dsimp only at hSw); go_simp
        simp only [Act.put, List.setIfInBounds_toArray, List.set_cons_zero, List.set_cons_succ]
        refine wpAnyT_take (oi := ⟨some 63, Op.convert 5 3 (Operand.tmp 62), 3, _, _, none⟩) (v := .int .i64 c4) rfl (fun _ _ _ h => h) (by rfl) (by assumption) (fun wS hSw => ?_) ?_
        · (try dsimp only at hSw); go_simp
        simp only [Act.put, List.setIfInBounds_toArray, List.set_cons_zero, List.set_cons_succ]
        refine wpAnyT_take (oi := ⟨some 66, Op.load 24 (Operand.tmp 6), 24, _, _, none⟩) (v := .agg #[.int .i64 ux, .int .i64 uy]) rfl (fun _ _ _ h => h) (by rfl) (by assumption) (fun wS hSw => ?_) ?_
        · (try dsimp only at hSw); go_simp
        simp only [Act.put, List.setIfInBounds_toArray, List.set_cons_zero, List.set_cons_succ]
        refine wpAnyT_end ?_
        refine wpAnyH_listed #[true, true, true, true, true, false, false, true, false, false, false, false] (by kernel_rfl) ?_
        refine wpAnyT_begin [5] (by kernel_rfl) (by kernel_rfl) ?_
        refine wpAnyT_take (oi := ⟨some 64, Op.binOp BinOp.rem 3 (Operand.tmp 63) (Operand.const (Value.int IntKind.i64 4)) 3, 3, _, _, none⟩) (v := .int .i64 T) rfl (fun _ _ _ h => h) (by rfl) (by assumption) (fun wS hSw => ?_) ?_
        · (try dsimp only at hSw); go_simp
        simp only [Act.put, List.setIfInBounds_toArray, List.set_cons_zero, List.set_cons_succ]
        refine wpAnyT_end ?_
        refine wpAnyH_listed #[true, true, true, true, true, true, false, true, false, false, false, false] (by kernel_rfl) ?_
        refine wpAnyH_ready (rs := [6]) (by kernel_rfl) (by simp) ?_
        refine AllReadyH.cons (o := ⟨some 65, Op.call { callee := Callee.value (Operand.func 25), args := #[Operand.tmp 60, Operand.tmp 64], argTypes := #[24, 3] }, 24, _, _, none⟩) rfl (fun K hK => ?_) AllReadyH.nil
        go_simp
        go_at_call 25
        refine (calls_two Cd (rturn_is x1 y1 T tx ty HT1.out _)).mono ?_
        rintro e w16 ⟨rfl, C16, g16⟩
        go_wp2_with fail
        clear hHeld
        refine hK.out _ _ (HS.out _ C16) (fun hHeld => ?_)
        clear hK K
        try simp only [List.setIfInBounds_toArray, List.set_cons_zero, List.set_cons_succ]
        refine wpAnyH_listed #[true, true, true, true, true, true, true, true, false, false, false, false] (by kernel_rfl) ?_
        have O16 := Od.later g16
        clear Cd Od g16
        refine wpAnyH_ready (rs := [8]) (by kernel_rfl) (by simp) ?_
        refine AllReadyH.cons (o := ⟨some 67, Op.call { callee := Callee.value (Operand.func 24), args := #[Operand.tmp 65, Operand.tmp 66], argTypes := #[24, 24] }, 24, _, _, none⟩) rfl (fun K hK => ?_) AllReadyH.nil
        go_simp
        go_at_call 24
        refine (calls_two C16 (radd_is tx ty ux uy mx my HA1.out _)).mono ?_
        rintro e w17 ⟨rfl, C17, g17⟩
        go_wp2_with fail
        clear hHeld
        refine hK.out _ _ (HS.out _ C17) (fun hHeld => ?_)
        clear hK K
        try simp only [List.setIfInBounds_toArray, List.set_cons_zero, List.set_cons_succ]
        refine wpAnyH_listed #[true, true, true, true, true, true, true, true, true, false, false, false] (by kernel_rfl) ?_
        have O17 := O16.later g17
        clear C16 O16 g17
        refine wpAnyH_ready (rs := [9]) (by kernel_rfl) (by simp) ?_
        refine AllReadyH.cons (o := ⟨some 68, Op.buildSlice 25 1 #[(0, Operand.tmp 67)], 25, _, _, none⟩) rfl (fun K hK => ?_) AllReadyH.nil
        have C18 := C17.push [.int .i64 mx, .int .i64 my] 24
        have O18 := O17.later ((Below.refl _ w17).alloc (Nat.le_refl _) (.cells #[.int .i64 mx, .int .i64 my] 24))
        go_simp
        change Has w13 _ (w17.alloc (.cells #[.int .i64 mx, .int .i64 my] 24)) at C18
        generalize w17.alloc (.cells #[.int .i64 mx, .int .i64 my] 24) = w18 at *
        generalize w17.heap.size = V2 at *
        clear hHeld
        refine hK.out _ _ (HS.out _ C18.tail) (fun hHeld => ?_)
        clear hK K
        try simp only [List.setIfInBounds_toArray, List.set_cons_zero, List.set_cons_succ]
        refine wpAnyH_listed #[true, true, true, true, true, true, true, true, true, true, false, false] (by kernel_rfl) ?_
        have R18 : RowP w18 (.slice (some ⟨V2, 0, none⟩) 1 1) [(mx, my)] := RowP.block (ps := [(mx, my)]) (c := 1) C18.cells (Nat.le_refl _) (by omega)
        clear C17 O17
        refine wpAnyH_ready (rs := [10]) (by kernel_rfl) (by simp) ?_
        refine AllReadyH.cons (o := ⟨some 69, Op.call { callee := Callee.builtin Builtin.append, args := #[Operand.tmp 59, Operand.tmp 68], argTypes := #[25, 25] }, 25, _, _, none⟩) rfl (fun K hK => ?_) AllReadyH.nil
        refine held_append_pts rfl _ _ rfl rfl O18 rfl R18 hlk C18.low.size ?_
        intro s19 w19 O19 G19
        have C19 := C18.tail.grown2 O18 (by intro p hp; simp only [List.mem_cons, List.not_mem_nil, or_false] at hp; rcases hp with rfl; exact hV) (Nat.le_refl _) G19
        clear O18 R18 G19
        simp only [Act.put, List.setIfInBounds_toArray, List.set_cons_zero, List.set_cons_succ]
        clear hHeld
        refine hK.out _ _ (HS.out _ C19) (fun hHeld => ?_)
        clear hK K
        try simp only [List.setIfInBounds_toArray, List.set_cons_zero, List.set_cons_succ]
        refine wpAnyH_listed #[true, true, true, true, true, true, true, true, true, true, true, false] (by kernel_rfl) ?_
        refine wpAnyT_begin [11] (by kernel_rfl) (by kernel_rfl) ?_
        refine wpAnyT_take (oi := ⟨some 11, Op.assign (Operand.tmp 69), 25, _, _, none⟩) (v := s19) rfl (fun _ _ _ h => h) (by rfl) (by assumption) (fun wS hSw => ?_) ?_
        · (try dsimp only at hSw); go_simp
        simp only [Act.put, List.setIfInBounds_toArray, List.set_cons_zero, List.set_cons_succ]
        refine wpAnyT_end ?_
        refine wpAnyH_listed #[true, true, true, true, true, true, true, true, true, true, true, true] (by kernel_rfl) ?_
        refine wpAnyH_done (by kernel_rfl) ?_ _
        clear hHeld
        rw [hnext.out] at O19
        have I19 : Has w13 [] w19 := C19.tail
        clear C19 HS
        go_wp2_with fail
        go_roundw
        case rel => exact ⟨k + 1, by omega, by go_num, O19, I19⟩
        case measure => simp [RowKit.intOf]; omega
      · obtain rfl : N = k := by omega
        clear hlt hk
        rw [List.take_of_length_le (by rw [List.length_map, HN.out]; exact Nat.le_refl _)] at O
        obtain ⟨Mv, hMv⟩ : ∃ l, r.map (mvt T ux uy) = l := ⟨_, rfl⟩
        rw [hMv] at O lw1 lw2
        have HZ2 := Lib.hid lw1
        have HI2 := Lib.hid (show insC Mv (qx, qy) = zi by rw [← lw2]; exact ins_box (by dsimp only; omega) (by dsimp only; omega))
        clear hMv lw1 lw2
        have RM := O.row
        replace RL := RL.later hI.low
        have C := C13.later hI.low
        obtain ⟨aM, cM, rfl⟩ := row_form RM
        clear hI O C13
        go_upto_region 13 with fail
        have Cw := C.drew
        replace RM := RM.later ((Below.refl _ wr).drew)
        replace RL := RL.later ((Below.refl _ wr).drew)
        have X0 : Has wr.drew [] wr.drew := Has.nil (Below.refl _ _)
        obtain ⟨wq, hwq⟩ : ∃ wq, wr.drew = wq := ⟨_, rfl⟩
        rw [hwq] at Cw RM RL X0
        have ms1 := Lib.hid (show ∀ w', Has wq [] w' → (w'.cell? ⟨P, 0, none⟩ = some (.int .i64 px) ∧ w'.cell? ⟨P, 1, none⟩ = some (.int .i64 py) ∧ w'.cell? ⟨A, 4, none⟩ = some (.int .u8 c4) ∧ w'.cell? ⟨B, 0, none⟩ = some (.int .i64 ux) ∧ w'.cell? ⟨B, 1, none⟩ = some (.int .i64 uy)) ∧ Has wq [] w' from fun w' h => ⟨⟨(Cw.later h.low).fact (.tail _ (.head _)) (i := 0) rfl, (Cw.later h.low).fact (.tail _ (.head _)) (i := 1) rfl, (Cw.later h.low).fact (.tail _ (.tail _ (.head _))) (i := 4) rfl, (Cw.later h.low).fact (.head _) (i := 0) rfl, (Cw.later h.low).fact (.head _) (i := 1) rfl⟩, h⟩)
        refine wp_region_held_drew (S := (fun w' => (w'.cell? ⟨P, 0, none⟩ = some (.int .i64 px) ∧ w'.cell? ⟨P, 1, none⟩ = some (.int .i64 py) ∧ w'.cell? ⟨A, 4, none⟩ = some (.int .u8 c4) ∧ w'.cell? ⟨B, 0, none⟩ = some (.int .i64 ux) ∧ w'.cell? ⟨B, 1, none⟩ = some (.int .i64 uy)) ∧ Has wq [] w')) (by kernel_rfl) (by rw [hwq]; exact ms1.out _ X0) (fun hHeld => ?_)
        rw [hwq] at hHeld ⊢
        clear hwq
        refine wpAnyT_begin [0, 1, 2, 3, 4, 6] (by kernel_rfl) (by kernel_rfl) ?_
        refine wpAnyT_take (oi := ⟨some 71, Op.load 24 (Operand.tmp 7), 24, _, _, none⟩) (v := .agg #[.int .i64 px, .int .i64 py]) rfl (fun _ _ _ h => h) (by rfl) (by assumption) (fun wS hSw => ?_) ?_
        · (try dsimp only at hSw); go_simp
        simp only [Act.put, List.setIfInBounds_toArray, List.set_cons_zero, List.set_cons_succ]
        refine wpAnyT_take (oi := ⟨some 72, Op.fieldAddr 48 (Operand.tmp 5) 3, 0, _, _, none⟩) (v := .pointer (some ⟨A, 4, none⟩)) rfl (fun _ _ _ h => h) (by rfl) (by assumption) (fun wS hSw => ?_) ?_
        · (try dsimp only at hSw); go_simp
        simp only [Act.put, List.setIfInBounds_toArray, List.set_cons_zero, List.set_cons_succ]
        refine wpAnyT_take (oi := ⟨some 73, Op.load 5 (Operand.tmp 72), 5, _, _, none⟩) (v := .int .u8 c4) rfl (fun _ _ _ h => h) (by rfl) (by assumption) (fun wS hSw => ?_) ?_
        · (try dsimp only at hSw); go_simp
        simp only [Act.put, List.setIfInBounds_toArray, List.set_cons_zero, List.set_cons_succ]
        refine wpAnyT_take (oi := ⟨some 74, Op.convert 5 3 (Operand.tmp 73), 3, _, _, none⟩) (v := .int .i64 c4) rfl (fun _ _ _ h => h) (by rfl) (by assumption) (fun wS hSw => ?_) ?_
        · (try dsimp only at hSw); go_simp
        simp only [Act.put, List.setIfInBounds_toArray, List.set_cons_zero, List.set_cons_succ]
        refine wpAnyT_take (oi := ⟨some 75, Op.binOp BinOp.rem 3 (Operand.tmp 74) (Operand.const (Value.int IntKind.i64 4)) 3, 3, _, _, none⟩) (v := .int .i64 T) rfl (fun _ _ _ h => h) (by rfl) (by assumption) (fun wS hSw => ?_) ?_
        · (try dsimp only at hSw); go_simp
        simp only [Act.put, List.setIfInBounds_toArray, List.set_cons_zero, List.set_cons_succ]
        refine wpAnyT_take (oi := ⟨some 77, Op.load 24 (Operand.tmp 6), 24, _, _, none⟩) (v := .agg #[.int .i64 ux, .int .i64 uy]) rfl (fun _ _ _ h => h) (by rfl) (by assumption) (fun wS hSw => ?_) ?_
        · (try dsimp only at hSw); go_simp
        simp only [Act.put, List.setIfInBounds_toArray, List.set_cons_zero, List.set_cons_succ]
        refine wpAnyT_end ?_
        refine wpAnyH_listed #[true, true, true, true, true, false, true, false, false, false] (by kernel_rfl) ?_
        refine any_ind (X := Sta) (n := fun sx => (2 - sx.n) + (if sx.a.isSome then 0 else 1)) (l := fun sx => #[true, true, true, true, true, decide (1 ≤ sx.n), true, decide (2 ≤ sx.n), sx.a.isSome, false]) (u := fun sx t => (putc 76 (.agg #[.int .i64 tp, .int .i64 tq']) (decide (1 ≤ sx.n)) (putc 78 (.agg #[.int .i64 qx, .int .i64 qy]) (decide (2 ≤ sx.n)) (putp 14 sx.a t)))) (I := fun sx w' => sx.n ≤ 2 ∧ Has wq (bl [.int .i64 0, .int .i64 0] sx.a []) w') (m := 1) ⟨none, none, none, 0⟩ (by kernel_rfl) (by kernel_rfl) (by kernel_rfl) ⟨Nat.zero_le _, X0⟩ ?_ ?_
        · rintro k ih ⟨pa, pb, pc, c⟩ w2 hk ⟨hc, hH⟩
          clear hHeld
          obtain rfl | rfl | rfl : c = 0 ∨ c = 1 ∨ c = 2 := by simp only at hc; omega
          · cases pa with
            | none =>
              simp only [Option.isSome, Bool.false_eq_true, if_false, if_true] at hk
              simp only [putc, putp, Act.put, decide_eq_true_eq, decide_true, decide_false, Nat.le_refl, Nat.reduceLeDiff, List.setIfInBounds_toArray, List.set_cons_zero, List.set_cons_succ]
              refine wpAnyH_listed #[true, true, true, true, true, false, true, false, false, false] (by kernel_rfl) ?_
              refine wpAnyH_ready (rs := [5, 8]) (by kernel_rfl) (by simp) ?_
              refine AllReadyH.cons (o := ⟨some 76, Op.call { callee := Callee.value (Operand.func 25), args := #[Operand.tmp 71, Operand.tmp 75], argTypes := #[24, 3] }, 24, _, _, none⟩) rfl (fun K hK => ?_) (?_)
              · go_simp
                go_at_call 25
                refine (Has.call hH (rturn_is px py T tp tq' HTP.out _)).mono ?_
                rintro e W ⟨rfl, hC⟩
                go_wp2_with fail
                refine hK.out _ _ (ms1.out _ hC) (fun _ => ?_)
                exact wpAnyH_cast rfl (by kernel_rfl) (by kernel_rfl) (ih ⟨none, pc, pc, 1⟩ _ (by simp only [Option.isSome, Bool.false_eq_true, if_false, if_true]; omega) ⟨by simp, hC⟩)
              refine AllReadyH.cons (o := ⟨some 14, Op.alloc 24, 0, _, _, none⟩) rfl (fun K hK => ?_) (AllReadyH.nil)
              · go_simp
                have hC := (hH.push [.int .i64 0, .int .i64 0] 24)
                change Has wq _ (w2.alloc (.cells #[.int .i64 0, .int .i64 0] 24)) at hC
                generalize w2.alloc (.cells #[.int .i64 0, .int .i64 0] 24) = W at *
                generalize w2.heap.size = Q at *
                have hC' : Has wq ([(Q, [.int .i64 0, .int .i64 0])] ++ []) W := hC
                refine hK.out _ _ (ms1.out _ (hC.tail)) (fun _ => ?_)
                exact wpAnyH_cast rfl (by kernel_rfl) (by kernel_rfl) (ih ⟨some Q, pc, pc, 0⟩ _ (by simp only [Option.isSome, Bool.false_eq_true, if_false, if_true]; omega) ⟨by simp, hC⟩)
            | some Q =>
              simp only [Option.isSome, Bool.false_eq_true, if_false, if_true] at hk
              simp only [putc, putp, Act.put, decide_eq_true_eq, decide_true, decide_false, Nat.le_refl, Nat.reduceLeDiff, List.setIfInBounds_toArray, List.set_cons_zero, List.set_cons_succ]
              refine wpAnyH_listed #[true, true, true, true, true, false, true, false, true, false] (by kernel_rfl) ?_
              refine wpAnyH_ready (rs := [5]) (by kernel_rfl) (by simp) ?_
              refine AllReadyH.cons (o := ⟨some 76, Op.call { callee := Callee.value (Operand.func 25), args := #[Operand.tmp 71, Operand.tmp 75], argTypes := #[24, 3] }, 24, _, _, none⟩) rfl (fun K hK => ?_) (AllReadyH.nil)
              · go_simp
                go_at_call 25
                refine (Has.call hH (rturn_is px py T tp tq' HTP.out _)).mono ?_
                rintro e W ⟨rfl, hC⟩
                go_wp2_with fail
                refine hK.out _ _ (ms1.out _ hC.tail) (fun _ => ?_)
                exact wpAnyH_cast rfl (by kernel_rfl) (by kernel_rfl) (ih ⟨some Q, pc, pc, 1⟩ _ (by simp only [Option.isSome, Bool.false_eq_true, if_false, if_true]; omega) ⟨by simp, hC⟩)
          · cases pa with
            | none =>
              simp only [Option.isSome, Bool.false_eq_true, if_false, if_true] at hk
              simp only [putc, putp, Act.put, decide_eq_true_eq, decide_true, decide_false, Nat.le_refl, Nat.reduceLeDiff, List.setIfInBounds_toArray, List.set_cons_zero, List.set_cons_succ]
              refine wpAnyH_listed #[true, true, true, true, true, true, true, false, false, false] (by kernel_rfl) ?_
              refine wpAnyH_ready (rs := [7, 8]) (by kernel_rfl) (by simp) ?_
              refine AllReadyH.cons (o := ⟨some 78, Op.call { callee := Callee.value (Operand.func 24), args := #[Operand.tmp 76, Operand.tmp 77], argTypes := #[24, 24] }, 24, _, _, none⟩) rfl (fun K hK => ?_) (?_)
              · go_simp
                go_at_call 24
                refine (Has.call hH (radd_is tp tq' ux uy qx qy HQA.out _)).mono ?_
                rintro e W ⟨rfl, hC⟩
                go_wp2_with fail
                refine hK.out _ _ (ms1.out _ hC) (fun _ => ?_)
                exact wpAnyH_cast rfl (by kernel_rfl) (by kernel_rfl) (ih ⟨none, pc, pc, 2⟩ _ (by simp only [Option.isSome, Bool.false_eq_true, if_false, if_true]; omega) ⟨by simp, hC⟩)
              refine AllReadyH.cons (o := ⟨some 14, Op.alloc 24, 0, _, _, none⟩) rfl (fun K hK => ?_) (AllReadyH.nil)
              · go_simp
                have hC := (hH.push [.int .i64 0, .int .i64 0] 24)
                change Has wq _ (w2.alloc (.cells #[.int .i64 0, .int .i64 0] 24)) at hC
                generalize w2.alloc (.cells #[.int .i64 0, .int .i64 0] 24) = W at *
                generalize w2.heap.size = Q at *
                have hC' : Has wq ([(Q, [.int .i64 0, .int .i64 0])] ++ []) W := hC
                refine hK.out _ _ (ms1.out _ (hC.tail)) (fun _ => ?_)
                exact wpAnyH_cast rfl (by kernel_rfl) (by kernel_rfl) (ih ⟨some Q, pc, pc, 1⟩ _ (by simp only [Option.isSome, Bool.false_eq_true, if_false, if_true]; omega) ⟨by simp, hC⟩)
            | some Q =>
              simp only [Option.isSome, Bool.false_eq_true, if_false, if_true] at hk
              simp only [putc, putp, Act.put, decide_eq_true_eq, decide_true, decide_false, Nat.le_refl, Nat.reduceLeDiff, List.setIfInBounds_toArray, List.set_cons_zero, List.set_cons_succ]
              refine wpAnyH_listed #[true, true, true, true, true, true, true, false, true, false] (by kernel_rfl) ?_
              refine wpAnyH_ready (rs := [7]) (by kernel_rfl) (by simp) ?_
              refine AllReadyH.cons (o := ⟨some 78, Op.call { callee := Callee.value (Operand.func 24), args := #[Operand.tmp 76, Operand.tmp 77], argTypes := #[24, 24] }, 24, _, _, none⟩) rfl (fun K hK => ?_) (AllReadyH.nil)
              · go_simp
                go_at_call 24
                refine (Has.call hH (radd_is tp tq' ux uy qx qy HQA.out _)).mono ?_
                rintro e W ⟨rfl, hC⟩
                go_wp2_with fail
                refine hK.out _ _ (ms1.out _ hC.tail) (fun _ => ?_)
                exact wpAnyH_cast rfl (by kernel_rfl) (by kernel_rfl) (ih ⟨some Q, pc, pc, 2⟩ _ (by simp only [Option.isSome, Bool.false_eq_true, if_false, if_true]; omega) ⟨by simp, hC⟩)
          · cases pa with
            | none =>
              simp only [Option.isSome, Bool.false_eq_true, if_false, if_true] at hk
              simp only [putc, putp, Act.put, decide_eq_true_eq, decide_true, decide_false, Nat.le_refl, Nat.reduceLeDiff, List.setIfInBounds_toArray, List.set_cons_zero, List.set_cons_succ]
              refine wpAnyH_listed #[true, true, true, true, true, true, true, true, false, false] (by kernel_rfl) ?_
              refine wpAnyH_ready (rs := [8]) (by kernel_rfl) (by simp) ?_
              refine AllReadyH.cons (o := ⟨some 14, Op.alloc 24, 0, _, _, none⟩) rfl (fun K hK => ?_) (AllReadyH.nil)
              · go_simp
                have hC := (hH.push [.int .i64 0, .int .i64 0] 24)
                change Has wq _ (w2.alloc (.cells #[.int .i64 0, .int .i64 0] 24)) at hC
                generalize w2.alloc (.cells #[.int .i64 0, .int .i64 0] 24) = W at *
                generalize w2.heap.size = Q at *
                have hC' : Has wq ([(Q, [.int .i64 0, .int .i64 0])] ++ []) W := hC
                refine hK.out _ _ (ms1.out _ (hC.tail)) (fun _ => ?_)
                exact wpAnyH_cast rfl (by kernel_rfl) (by kernel_rfl) (ih ⟨some Q, pc, pc, 2⟩ _ (by simp only [Option.isSome, Bool.false_eq_true, if_false, if_true]; omega) ⟨by simp, hC⟩)
            | some Q =>
              exact absurd hk (by simp)
        rintro ⟨pa, pb, pc, c⟩ w2 hk ⟨hc, hH⟩
        obtain ⟨Q, rfl, rfl⟩ : ∃ Q, pa = some Q ∧ c = 2 := by
          cases pa <;> simp only [Option.isSome, Bool.false_eq_true, if_false, if_true] at hk <;> simp only at hc <;> first | exact ⟨_, rfl, by omega⟩ | omega
        simp only [putc, putp, Act.put, decide_eq_true_eq, decide_true, decide_false, Nat.le_refl, Nat.reduceLeDiff, List.setIfInBounds_toArray, List.set_cons_zero, List.set_cons_succ]
        have XA := hH
        change Has wq [(Q, [.int .i64 0, .int .i64 0])] w2 at XA
        clear hH hk hc
        refine wpAnyH_listed #[true, true, true, true, true, true, true, true, true, false] (by kernel_rfl) ?_
        refine wpAnyH_ready (rs := [9]) (by kernel_rfl) (by simp) ?_
        refine AllReadyH.cons (o := ⟨none, Op.store 24 (Operand.tmp 14) (Operand.tmp 78), 0, _, _, none⟩) rfl (fun K hK => ?_) AllReadyH.nil
        have k0 := XA.fact (.head _) (i := 0) rfl
        have k1 := XA.fact (.head _) (i := 1) rfl
        have f0 := XA.free (.head _) (i := 0) rfl
        have f1 := XA.free (.head _) (i := 1) rfl
        go_simp
        have C22 : Has wq [(Q, [.int .i64 qx, .int .i64 qy])] (World.setCell (World.setCell w2 ⟨Q, 0, none⟩ (.int .i64 qx)) ⟨Q, 1, none⟩ (.int .i64 qy)) := (XA.set2 (.int .i64 qx) (.int .i64 qy))
        generalize (World.setCell (World.setCell w2 ⟨Q, 0, none⟩ (.int .i64 qx)) ⟨Q, 1, none⟩ (.int .i64 qy)) = w22 at *
        clear k0 f0 k1 f1 XA
        clear hHeld
        refine hK.out _ _ (ms1.out _ C22.tail) (fun hHeld => ?_)
        clear hK K
        try simp only [List.setIfInBounds_toArray, List.set_cons_zero, List.set_cons_succ]
        refine wpAnyH_listed #[true, true, true, true, true, true, true, true, true, true] (by kernel_rfl) ?_
        refine wpAnyH_done (by kernel_rfl) ?_ _
        try clear hHeld
        have Cw2 := Cw.later C22.low
        replace RM := RM.later C22.low
        replace RL := RL.later C22.low
        clear ms1 X0
        go_wp2_with fail
        have HS31 := Lib.hid (show ∀ w', Has wq [(Q, [.int .i64 qx, .int .i64 qy])] w' → (w'.cell? ⟨Q, 0, none⟩ = some (.int .i64 qx) ∧ w'.cell? ⟨Q, 1, none⟩ = some (.int .i64 qy) ∧ w'.cell? ⟨P, 0, none⟩ = some (.int .i64 px) ∧ w'.cell? ⟨P, 1, none⟩ = some (.int .i64 py)) ∧ Has wq [(Q, [.int .i64 qx, .int .i64 qy])] w' from fun w' h => ⟨⟨h.fact (.head _) (i := 0) rfl, h.fact (.head _) (i := 1) rfl, (Cw.later h.low).fact (.tail _ (.head _)) (i := 0) rfl, (Cw.later h.low).fact (.tail _ (.head _)) (i := 1) rfl⟩, h⟩)
        have C31d := C22.drew
        replace RM := RM.later ((Below.refl _ w22).drew)
        replace RL := RL.later ((Below.refl _ w22).drew)
        refine wp_region_held_drew (S := (fun w' => (w'.cell? ⟨Q, 0, none⟩ = some (.int .i64 qx) ∧ w'.cell? ⟨Q, 1, none⟩ = some (.int .i64 qy) ∧ w'.cell? ⟨P, 0, none⟩ = some (.int .i64 px) ∧ w'.cell? ⟨P, 1, none⟩ = some (.int .i64 py)) ∧ Has wq [(Q, [.int .i64 qx, .int .i64 qy])] w')) (by kernel_rfl) (HS31.out _ C31d) (fun hHeld => ?_)
        clear C22
        generalize w22.drew = w31d at *
        refine wpAnyT_begin [0] (by kernel_rfl) (by kernel_rfl) ?_
        refine wpAnyT_take (oi := ⟨some 79, Op.move (Operand.tmp 9), 4, _, _, none⟩) (v := .bool true) rfl (fun _ _ _ h => h) (by rfl) (by assumption) (fun wS hSw => ?_) ?_
        · (try dsimp only at hSw); go_simp
        simp only [Act.put, List.setIfInBounds_toArray, List.set_cons_zero, List.set_cons_succ]
        refine wpAnyT_end ?_
        refine wpAnyH_listed #[true, false, false, false, false, false, false, false, false, false, false, false, false, false, false, false, false, false] (by kernel_rfl) ?_
        refine wpAnyT_begin [1] (by kernel_rfl) (by kernel_rfl) ?_
        refine wpAnyT_take (oi := ⟨some 80, Op.move (Operand.tmp 79), 4, _, _, none⟩) (v := .bool true) rfl (fun _ _ _ h => h) (by rfl) (by assumption) (fun wS hSw => ?_) ?_
        · (try dsimp only at hSw); go_simp
        simp only [Act.put, List.setIfInBounds_toArray, List.set_cons_zero, List.set_cons_succ]
        refine wpAnyT_end ?_
        refine wpAnyH_listed #[true, true, false, false, false, false, false, false, false, false, false, false, false, false, false, false, false, false] (by kernel_rfl) ?_
        refine wpAnyT_begin [2, 4] (by kernel_rfl) (by kernel_rfl) ?_
        refine wpAnyT_take (oi := ⟨some 81, Op.move (Operand.tmp 11), 25, _, _, some (1, true)⟩) (v := .slice aM Mv.length cM) rfl (fun _ _ _ h => h) (by rfl) (by assumption) (fun wS hSw => ?_) ?_
        · (try dsimp only at hSw); go_simp
        simp only [Act.put, List.setIfInBounds_toArray, List.set_cons_zero, List.set_cons_succ]
        refine wpAnyT_take (oi := ⟨some 83, Op.move (Operand.tmp 10), 25, _, _, some (1, true)⟩) (v := .slice (some ⟨g, 0, none⟩) N c5) rfl (fun _ _ _ h => h) (by rfl) (by assumption) (fun wS hSw => ?_) ?_
        · (try dsimp only at hSw); go_simp
        simp only [Act.put, List.setIfInBounds_toArray, List.set_cons_zero, List.set_cons_succ]
        refine wpAnyT_end ?_
        refine wpAnyH_listed #[true, true, true, false, true, false, false, false, false, false, false, false, false, false, false, false, false, false] (by kernel_rfl) ?_
        refine wpAnyH_ready (rs := [3]) (by kernel_rfl) (by simp) ?_
        refine AllReadyH.cons (o := ⟨some 82, Op.call { callee := Callee.value (Operand.func 14), args := #[Operand.tmp 81], argTypes := #[25] }, 31, _, _, some (1, true)⟩) rfl (fun K hK => ?_) AllReadyH.nil
        go_simp
        go_at_call 14
        refine (calls_two C31d (c14 _ _ _ RM _ HZ2.out)).mono ?_
        rintro e w32 ⟨rfl, C32, g32⟩
        go_wp2_with fail
        clear hHeld
        refine hK.out _ _ (HS31.out _ (C32)) (fun hHeld => ?_)
        clear hK K
        try simp only [List.setIfInBounds_toArray, List.set_cons_zero, List.set_cons_succ]
        refine wpAnyH_listed #[true, true, true, true, true, false, false, false, false, false, false, false, false, false, false, false, false, false] (by kernel_rfl) ?_
        replace RM := RM.later g32
        replace RL := RL.later g32
        clear C31d g32
        refine wpAnyH_ready (rs := [5]) (by kernel_rfl) (by simp) ?_
        refine AllReadyH.cons (o := ⟨some 84, Op.call { callee := Callee.value (Operand.func 14), args := #[Operand.tmp 83], argTypes := #[25] }, 31, _, _, some (1, true)⟩) rfl (fun K hK => ?_) AllReadyH.nil
        go_simp
        go_at_call 14
        refine (calls_two C32 (c14 _ _ _ RL _ HZ1.out)).mono ?_
        rintro e w33 ⟨rfl, C33, g33⟩
        go_wp2_with fail
        clear hHeld
        refine hK.out _ _ (HS31.out _ (C33)) (fun hHeld => ?_)
        clear hK K
        try simp only [List.setIfInBounds_toArray, List.set_cons_zero, List.set_cons_succ]
        refine wpAnyH_listed #[true, true, true, true, true, true, false, false, false, false, false, false, false, false, false, false, false, false] (by kernel_rfl) ?_
        replace RM := RM.later g33
        replace RL := RL.later g33
        clear C32 g33
        refine wpAnyT_begin [6] (by kernel_rfl) (by kernel_rfl) ?_
        refine wpAnyT_take (oi := ⟨some 85, Op.binOp BinOp.eql 31 (Operand.tmp 82) (Operand.tmp 84) 31, 4, _, _, some (1, true)⟩) (v := .bool true) rfl (fun _ _ _ h => h) (by rfl) (by assumption) (fun wS hSw => ?_) ?_
        · (try dsimp only at hSw); go_simp
        simp only [Act.put, List.setIfInBounds_toArray, List.set_cons_zero, List.set_cons_succ]
        refine wpAnyT_end ?_
        refine wpAnyH_listed #[true, true, true, true, true, true, true, false, false, false, false, false, false, false, false, false, false, false] (by kernel_rfl) ?_
        refine wpAnyT_begin [7] (by kernel_rfl) (by kernel_rfl) ?_
        refine wpAnyT_take (oi := ⟨some 86, Op.pick (Operand.tmp 80) (Operand.tmp 85) (Operand.const (Value.bool false)), 4, _, _, none⟩) (v := .bool true) rfl (fun _ _ _ h => h) (by rfl) (by assumption) (fun wS hSw => ?_) ?_
        · (try dsimp only at hSw); go_simp
        simp only [Act.put, List.setIfInBounds_toArray, List.set_cons_zero, List.set_cons_succ]
        refine wpAnyT_end ?_
        refine wpAnyH_listed #[true, true, true, true, true, true, true, true, false, false, false, false, false, false, false, false, false, false] (by kernel_rfl) ?_
        refine wpAnyT_begin [8] (by kernel_rfl) (by kernel_rfl) ?_
        refine wpAnyT_take (oi := ⟨some 87, Op.move (Operand.tmp 86), 4, _, _, none⟩) (v := .bool true) rfl (fun _ _ _ h => h) (by rfl) (by assumption) (fun wS hSw => ?_) ?_
        · (try dsimp only at hSw); go_simp
        simp only [Act.put, List.setIfInBounds_toArray, List.set_cons_zero, List.set_cons_succ]
        refine wpAnyT_end ?_
        refine wpAnyH_listed #[true, true, true, true, true, true, true, true, true, false, false, false, false, false, false, false, false, false] (by kernel_rfl) ?_
        refine wpAnyT_begin [9, 10, 12, 13] (by kernel_rfl) (by kernel_rfl) ?_
        refine wpAnyT_take (oi := ⟨some 88, Op.move (Operand.tmp 11), 25, _, _, some (8, true)⟩) (v := .slice aM Mv.length cM) rfl (fun _ _ _ h => h) (by rfl) (by assumption) (fun wS hSw => ?_) ?_
        · (try dsimp only at hSw); go_simp
        simp only [Act.put, List.setIfInBounds_toArray, List.set_cons_zero, List.set_cons_succ]
        refine wpAnyT_take (oi := ⟨some 89, Op.load 24 (Operand.tmp 14), 24, _, _, some (8, true)⟩) (v := .agg #[.int .i64 qx, .int .i64 qy]) rfl (fun _ _ _ h => h) (by rfl) (by assumption) (fun wS hSw => ?_) ?_
        · (try dsimp only at hSw); go_simp
        simp only [Act.put, List.setIfInBounds_toArray, List.set_cons_zero, List.set_cons_succ]
        refine wpAnyT_take (oi := ⟨some 91, Op.move (Operand.tmp 10), 25, _, _, some (8, true)⟩) (v := .slice (some ⟨g, 0, none⟩) N c5) rfl (fun _ _ _ h => h) (by rfl) (by assumption) (fun wS hSw => ?_) ?_
        · (try dsimp only at hSw); go_simp
        simp only [Act.put, List.setIfInBounds_toArray, List.set_cons_zero, List.set_cons_succ]
        refine wpAnyT_take (oi := ⟨some 92, Op.load 24 (Operand.tmp 7), 24, _, _, some (8, true)⟩) (v := .agg #[.int .i64 px, .int .i64 py]) rfl (fun _ _ _ h => h) (by rfl) (by assumption) (fun wS hSw => ?_) ?_
        · (try dsimp only at hSw); go_simp
        simp only [Act.put, List.setIfInBounds_toArray, List.set_cons_zero, List.set_cons_succ]
        refine wpAnyT_end ?_
        refine wpAnyH_listed #[true, true, true, true, true, true, true, true, true, true, true, false, true, true, false, false, false, false] (by kernel_rfl) ?_
        refine wpAnyH_ready (rs := [11]) (by kernel_rfl) (by simp) ?_
        refine AllReadyH.cons (o := ⟨some 90, Op.call { callee := Callee.value (Operand.func 18), args := #[Operand.tmp 88, Operand.tmp 89], argTypes := #[25, 24] }, 3, _, _, some (8, true)⟩) rfl (fun K hK => ?_) AllReadyH.nil
        go_simp
        go_at_call 18
        refine (calls_two C33 (inside_is _ Mv qx qy _ RM zi HI2.out)).mono ?_
        rintro e w34 ⟨rfl, C34, g34⟩
        go_wp2_with fail
        clear hHeld
        refine hK.out _ _ (HS31.out _ (C34)) (fun hHeld => ?_)
        clear hK K
        try simp only [List.setIfInBounds_toArray, List.set_cons_zero, List.set_cons_succ]
        refine wpAnyH_listed #[true, true, true, true, true, true, true, true, true, true, true, true, true, true, false, false, false, false] (by kernel_rfl) ?_
        replace RM := RM.later g34
        replace RL := RL.later g34
        clear C33 g34
        refine wpAnyH_ready (rs := [14]) (by kernel_rfl) (by simp) ?_
        refine AllReadyH.cons (o := ⟨some 93, Op.call { callee := Callee.value (Operand.func 18), args := #[Operand.tmp 91, Operand.tmp 92], argTypes := #[25, 24] }, 3, _, _, some (8, true)⟩) rfl (fun K hK => ?_) AllReadyH.nil
        go_simp
        go_at_call 18
        refine (calls_two C34 (inside_is _ r px py _ RL zi HI1.out)).mono ?_
        rintro e w35 ⟨rfl, C35, g35⟩
        go_wp2_with fail
        clear hHeld
        refine hK.out _ _ (HS31.out _ (C35)) (fun hHeld => ?_)
        clear hK K
        try simp only [List.setIfInBounds_toArray, List.set_cons_zero, List.set_cons_succ]
        refine wpAnyH_listed #[true, true, true, true, true, true, true, true, true, true, true, true, true, true, true, false, false, false] (by kernel_rfl) ?_
        replace RM := RM.later g35
        replace RL := RL.later g35
        clear C34 g35
        refine wpAnyT_begin [15] (by kernel_rfl) (by kernel_rfl) ?_
        refine wpAnyT_take (oi := ⟨some 94, Op.binOp BinOp.eql 3 (Operand.tmp 90) (Operand.tmp 93) 3, 4, _, _, some (8, true)⟩) (v := .bool true) rfl (fun _ _ _ h => h) (by rfl) (by assumption) (fun wS hSw => ?_) ?_
        · (try dsimp only at hSw); go_simp
        simp only [Act.put, List.setIfInBounds_toArray, List.set_cons_zero, List.set_cons_succ]
        refine wpAnyT_end ?_
        refine wpAnyH_listed #[true, true, true, true, true, true, true, true, true, true, true, true, true, true, true, true, false, false] (by kernel_rfl) ?_
        refine wpAnyT_begin [16] (by kernel_rfl) (by kernel_rfl) ?_
        refine wpAnyT_take (oi := ⟨some 95, Op.pick (Operand.tmp 87) (Operand.tmp 94) (Operand.const (Value.bool false)), 4, _, _, none⟩) (v := .bool true) rfl (fun _ _ _ h => h) (by rfl) (by assumption) (fun wS hSw => ?_) ?_
        · (try dsimp only at hSw); go_simp
        simp only [Act.put, List.setIfInBounds_toArray, List.set_cons_zero, List.set_cons_succ]
        refine wpAnyT_end ?_
        refine wpAnyH_listed #[true, true, true, true, true, true, true, true, true, true, true, true, true, true, true, true, true, false] (by kernel_rfl) ?_
        refine wpAnyT_begin [17] (by kernel_rfl) (by kernel_rfl) ?_
        refine wpAnyT_take (oi := ⟨some 8, Op.assign (Operand.tmp 95), 4, _, _, none⟩) (v := .bool true) rfl (fun _ _ _ h => h) (by rfl) (by assumption) (fun wS hSw => ?_) ?_
        · (try dsimp only at hSw); go_simp
        simp only [Act.put, List.setIfInBounds_toArray, List.set_cons_zero, List.set_cons_succ]
        refine wpAnyT_end ?_
        refine wpAnyH_listed #[true, true, true, true, true, true, true, true, true, true, true, true, true, true, true, true, true, true] (by kernel_rfl) ?_
        refine wpAnyH_done (by kernel_rfl) ?_ _
        clear hHeld
        clear HS31
        go_wp2_with fail
        go_ret
        exact ⟨rfl, (Cw.later C35.low).low⟩
  | true =>
    obtain ⟨i, hrem, hiN⟩ := idx_of c1 N bc1.1 (by omega)
    obtain ⟨⟨px', py'⟩, hpi⟩ : ∃ p, r[i]? = some p := ⟨_, at_pt (by rw [HN.out]; exact hiN)⟩
    have bt2 := tmod_abs c2 20 (by omega)
    have bt3 := tmod_abs c3 20 (by omega)
    have HLn := Lib.hid (show (r.set i (c2.tmod 20, c3.tmod 20)).length = N by rw [List.length_set]; exact HN.out)
    have HBL := Lib.hid (bdd_set HB.out i (x := c2.tmod 20) (y := c3.tmod 20) (by omega) (by omega))
    have wn : IntKind.i64.wrap c1 = c1 := IntWalk.i64_in _ (by omega)
    have bN : ¬ (N : Int) = 0 := by omega
    have bN' : ¬ N = 0 := by omega
    have bi0 : (0 : Int) ≤ i := by omega
    have biN : (i : Int) < N := by omega
    go_upto_region 4 with fail
    clear m0
    have HS := Lib.hid (show ∀ w', Has w [(P, [.int .i64 x3, .int .i64 y3]), (B, [.int .i64 x2, .int .i64 y2]), (A, [.bool true, .int .u8 c1, .int .i64 c2, .int .i64 c3, .int .u8 c4])] w' → w'.cell? ⟨A, 1, none⟩ = some (.int .u8 c1) ∧ w'.cell? ⟨A, 2, none⟩ = some (.int .i64 c2) ∧ w'.cell? ⟨A, 3, none⟩ = some (.int .i64 c3) from fun w' h => ⟨h.fact (.tail _ (.tail _ (.head _))) (i := 1) rfl, h.fact (.tail _ (.tail _ (.head _))) (i := 2) rfl, h.fact (.tail _ (.tail _ (.head _))) (i := 3) rfl⟩)
    have Dd := D3.drew
    have Od := O3.later ((Below.refl _ w3).drew)
    have Gd := G.drew
    refine wp_region_held_drew (S := fun w' => w'.cell? ⟨A, 1, none⟩ = some (.int .u8 c1) ∧ w'.cell? ⟨A, 2, none⟩ = some (.int .i64 c2) ∧ w'.cell? ⟨A, 3, none⟩ = some (.int .i64 c3)) (by kernel_rfl) (HS.out _ Dd) (fun hHeld => ?_)
    generalize w3.drew = w5 at *
    refine wpAnyT_begin [0, 1, 2, 3, 4, 5, 7, 8, 9, 11, 12, 13] (by kernel_rfl) (by kernel_rfl) ?_
    refine wpAnyT_take (oi := ⟨some 22, Op.move (Operand.tmp 10), 25, _, _, none⟩) (v := .slice (some ⟨g, 0, none⟩) N c5) rfl (fun _ _ _ h => h) (by rfl) (by assumption) (fun wS hSw => ?_) ?_
    · (try dsimp only at hSw); go_simp
    simp only [Act.put, List.setIfInBounds_toArray, List.set_cons_zero, List.set_cons_succ]
    refine wpAnyT_take (oi := ⟨some 23, Op.fieldAddr 48 (Operand.tmp 5) 1, 0, _, _, none⟩) (v := .pointer (some ⟨A, 1, none⟩)) rfl (fun _ _ _ h => h) (by rfl) (by assumption) (fun wS hSw => ?_) ?_
    · (try dsimp only at hSw); go_simp
    simp only [Act.put, List.setIfInBounds_toArray, List.set_cons_zero, List.set_cons_succ]
    refine wpAnyT_take (oi := ⟨some 24, Op.load 5 (Operand.tmp 23), 5, _, _, none⟩) (v := .int .u8 c1) rfl (fun _ _ _ h => h) (by rfl) (by assumption) (fun wS hSw => ?_) ?_
    · (try dsimp only at hSw); go_simp
    simp only [Act.put, List.setIfInBounds_toArray, List.set_cons_zero, List.set_cons_succ]
    refine wpAnyT_take (oi := ⟨some 25, Op.convert 5 3 (Operand.tmp 24), 3, _, _, none⟩) (v := .int .i64 c1) rfl (fun _ _ _ h => h) (by rfl) (by assumption) (fun wS hSw => ?_) ?_
    · (try dsimp only at hSw); go_simp
    simp only [Act.put, List.setIfInBounds_toArray, List.set_cons_zero, List.set_cons_succ]
    refine wpAnyT_take (oi := ⟨some 26, Op.move (Operand.tmp 10), 25, _, _, none⟩) (v := .slice (some ⟨g, 0, none⟩) N c5) rfl (fun _ _ _ h => h) (by rfl) (by assumption) (fun wS hSw => ?_) ?_
    · (try dsimp only at hSw); go_simp
    simp only [Act.put, List.setIfInBounds_toArray, List.set_cons_zero, List.set_cons_succ]
    refine wpAnyT_take (oi := ⟨some 27, Op.call { callee := Callee.builtin Builtin.len, args := #[Operand.tmp 26], argTypes := #[25] }, 3, _, _, none⟩) (v := .int .i64 N) rfl (fun _ _ _ h => h) (by rfl) (by assumption) (fun wS hSw => ?_) ?_
    · (try dsimp only at hSw); go_simp
    simp only [Act.put, List.setIfInBounds_toArray, List.set_cons_zero, List.set_cons_succ]
    refine wpAnyT_take (oi := ⟨some 29, Op.fieldAddr 48 (Operand.tmp 5) 2, 0, _, _, none⟩) (v := .pointer (some ⟨A, 2, none⟩)) rfl (fun _ _ _ h => h) (by rfl) (by assumption) (fun wS hSw => ?_) ?_
    · (try dsimp only at hSw); go_simp
    simp only [Act.put, List.setIfInBounds_toArray, List.set_cons_zero, List.set_cons_succ]
    refine wpAnyT_take (oi := ⟨some 30, Op.fieldAddr 24 (Operand.tmp 29) 0, 0, _, _, none⟩) (v := .pointer (some ⟨A, 2, none⟩)) rfl (fun _ _ _ h => h) (by rfl) (by assumption) (fun wS hSw => ?_) ?_
    · (try dsimp only at hSw); go_simp
    simp only [Act.put, List.setIfInBounds_toArray, List.set_cons_zero, List.set_cons_succ]
    refine wpAnyT_take (oi := ⟨some 31, Op.load 3 (Operand.tmp 30), 3, _, _, none⟩) (v := .int .i64 c2) rfl (fun _ _ _ h => h) (by rfl) (by assumption) (fun wS hSw => ?_) ?_
    · (try dsimp only at hSw); go_simp
    simp only [Act.put, List.setIfInBounds_toArray, List.set_cons_zero, List.set_cons_succ]
    refine wpAnyT_take (oi := ⟨some 33, Op.fieldAddr 48 (Operand.tmp 5) 2, 0, _, _, none⟩) (v := .pointer (some ⟨A, 2, none⟩)) rfl (fun _ _ _ h => h) (by rfl) (by assumption) (fun wS hSw => ?_) ?_
    · (try dsimp only at hSw); go_simp
    simp only [Act.put, List.setIfInBounds_toArray, List.set_cons_zero, List.set_cons_succ]
    refine wpAnyT_take (oi := ⟨some 34, Op.fieldAddr 24 (Operand.tmp 33) 1, 0, _, _, none⟩) (v := .pointer (some ⟨A, 3, none⟩)) rfl (fun _ _ _ h => h) (by rfl) (by assumption) (fun wS hSw => ?_) ?_
    · (try dsimp only at hSw); go_simp
    simp only [Act.put, List.setIfInBounds_toArray, List.set_cons_zero, List.set_cons_succ]
    refine wpAnyT_take (oi := ⟨some 35, Op.load 3 (Operand.tmp 34), 3, _, _, none⟩) (v := .int .i64 c3) rfl (fun _ _ _ h => h) (by rfl) (by assumption) (fun wS hSw => ?_) ?_
    · (try dsimp only at hSw); go_simp
    simp only [Act.put, List.setIfInBounds_toArray, List.set_cons_zero, List.set_cons_succ]
    refine wpAnyT_end ?_
    refine wpAnyH_listed #[true, true, true, true, true, true, false, true, true, true, false, true, true, true, false, false, false, false] (by kernel_rfl) ?_
    refine wpAnyT_begin [6, 10, 14] (by kernel_rfl) (by kernel_rfl) ?_
    refine wpAnyT_take (oi := ⟨some 28, Op.binOp BinOp.rem 3 (Operand.tmp 25) (Operand.tmp 27) 3, 3, _, _, none⟩) (v := .int .i64 i) rfl (fun _ _ _ h => h) (by rfl) (by assumption) (fun wS hSw => ?_) ?_
    · (try dsimp only at hSw); go_simp
    simp only [Act.put, List.setIfInBounds_toArray, List.set_cons_zero, List.set_cons_succ]
    refine wpAnyT_take (oi := ⟨some 32, Op.binOp BinOp.rem 3 (Operand.tmp 31) (Operand.const (Value.int IntKind.i64 20)) 3, 3, _, _, none⟩) (v := .int .i64 (c2.tmod 20)) rfl (fun _ _ _ h => h) (by rfl) (by assumption) (fun wS hSw => ?_) ?_
    · (try dsimp only at hSw); go_simp
    simp only [Act.put, List.setIfInBounds_toArray, List.set_cons_zero, List.set_cons_succ]
    refine wpAnyT_take (oi := ⟨some 36, Op.binOp BinOp.rem 3 (Operand.tmp 35) (Operand.const (Value.int IntKind.i64 20)) 3, 3, _, _, none⟩) (v := .int .i64 (c3.tmod 20)) rfl (fun _ _ _ h => h) (by rfl) (by assumption) (fun wS hSw => ?_) ?_
    · (try dsimp only at hSw); go_simp
    simp only [Act.put, List.setIfInBounds_toArray, List.set_cons_zero, List.set_cons_succ]
    refine wpAnyT_end ?_
    refine wpAnyH_listed #[true, true, true, true, true, true, true, true, true, true, true, true, true, true, true, false, false, false] (by kernel_rfl) ?_
    refine wpAnyH_ready (rs := [15]) (by kernel_rfl) (by simp) ?_
    refine AllReadyH.cons (o := ⟨some 37, Op.call { callee := Callee.value (Operand.func 13), args := #[Operand.tmp 32, Operand.tmp 36], argTypes := #[3, 3] }, 24, _, _, none⟩) rfl (fun K hK => ?_) AllReadyH.nil
    go_simp
    go_at_call 13
    refine (calls_two Dd (at_any _ _ _)).mono ?_
    rintro e w6 ⟨rfl, D6, g6⟩
    go_wp2_with fail
    clear hHeld
    refine hK.out _ _ (HS.out _ D6) (fun hHeld => ?_)
    clear hK K
    try simp only [List.setIfInBounds_toArray, List.set_cons_zero, List.set_cons_succ]
    refine wpAnyH_listed #[true, true, true, true, true, true, true, true, true, true, true, true, true, true, true, true, false, false] (by kernel_rfl) ?_
    have O6 := Od.later g6
    have G6 : Grows w1 w6 := Gd.trans (g6.mono Gd.size)
    obtain ⟨k0, k1⟩ := O6.row.cells hpi
    rw [Nat.zero_add] at k0 k1
    have f0 := O6.frozen (i * 2)
    have f1 := O6.frozen (i * 2 + 1)
    clear Od g6 Dd Gd
    refine wpAnyT_begin [16] (by kernel_rfl) (by kernel_rfl) ?_
    refine wpAnyT_take (oi := ⟨some 38, Op.indexAddr 25 (Operand.tmp 22) (Operand.tmp 28), 0, _, _, none⟩) (v := .pointer (some ⟨g, i * 2, none⟩)) rfl (fun _ _ _ h => h) (by rfl) (by assumption) (fun wS hSw => ?_) ?_
    · (try dsimp only at hSw); go_simp
    simp only [Act.put, List.setIfInBounds_toArray, List.set_cons_zero, List.set_cons_succ]
    refine wpAnyT_end ?_
    refine wpAnyH_listed #[true, true, true, true, true, true, true, true, true, true, true, true, true, true, true, true, true, false] (by kernel_rfl) ?_
    refine wpAnyH_ready (rs := [17]) (by kernel_rfl) (by simp) ?_
    refine AllReadyH.cons (o := ⟨none, Op.store 24 (Operand.tmp 38) (Operand.tmp 37), 0, _, _, none⟩) rfl (fun K hK => ?_) AllReadyH.nil
    go_simp
    have O8 : Own w1.heap.size ((w6.setCell ⟨g, i * 2, none⟩ (.int .i64 (c2.tmod 20))).setCell ⟨g, i * 2 + 1, none⟩ (.int .i64 (c3.tmod 20))) _ _ := O6.set i (c2.tmod 20) (c3.tmod 20)
    have G8 : Grows w1 ((w6.setCell ⟨g, i * 2, none⟩ (.int .i64 (c2.tmod 20))).setCell ⟨g, i * 2 + 1, none⟩ (.int .i64 (c3.tmod 20))) := (G6.setCell (p := ⟨g, i * 2, none⟩) hg1 _).setCell (p := ⟨g, i * 2 + 1, none⟩) hg1 _
    generalize (w6.setCell ⟨g, i * 2, none⟩ (.int .i64 (c2.tmod 20))).setCell ⟨g, i * 2 + 1, none⟩ (.int .i64 (c3.tmod 20)) = w8 at *
    have D8 := D1.later G8
    clear hHeld
    refine hK.out _ _ (HS.out _ D8) (fun hHeld => ?_)
    clear hK K
    try simp only [List.setIfInBounds_toArray, List.set_cons_zero, List.set_cons_succ]
    refine wpAnyH_listed #[true, true, true, true, true, true, true, true, true, true, true, true, true, true, true, true, true, true] (by kernel_rfl) ?_
    refine wpAnyH_done (by kernel_rfl) ?_ _
    clear hHeld
    clear HS k0 k1 f0 f1 G8 G6 O6 D6 hrem wn hpi bN bN' bi0 biN
    obtain ⟨L, hL⟩ : ∃ l, r.set i (c2.tmod 20, c3.tmod 20) = l := ⟨_, rfl⟩
    rw [hL] at O8 HLn HBL
    clear hL
    go_upto_region 5 with fail
    obtain ⟨k0, k1⟩ : w8.cell? ⟨P, 0, none⟩ = some (.int .i64 x3) ∧ w8.cell? ⟨P, 1, none⟩ = some (.int .i64 y3) := ⟨D8.fact (.head _) (i := 0) rfl, D8.fact (.head _) (i := 1) rfl⟩
    go_wp2_with fail
    refine (calls_two D8 (at_any _ _ _)).mono ?_
    rintro e w10 ⟨rfl, C10, g10⟩
    have O10 := O8.later g10
    clear k0 k1 D8 O8 g10
    have bpx := tmod_abs x3 30 (by omega)
    have bpy := tmod_abs y3 30 (by omega)
    generalize x3.tmod 30 = px at *
    generalize y3.tmod 30 = py at *
    have k0 := C10.fact (.head _) (i := 0) rfl
    have k1 := C10.fact (.head _) (i := 1) rfl
    have f0 := C10.free (.head _) (i := 0) rfl
    have f1 := C10.free (.head _) (i := 1) rfl
    go_upto_region 6 with fail
    have C11 := C10.set2 (.int .i64 px) (.int .i64 py)
    have O11 := (Oth.set P 1 _ (.int .i64 py)).own (by omega) ((Oth.set P 0 _ (.int .i64 px)).own (by omega) O10)
    generalize (w10.setCell ⟨P, 0, none⟩ (.int .i64 px)).setCell ⟨P, 1, none⟩ (.int .i64 py) = w11 at *
    clear k0 k1 f0 f1 C10 O10
    replace C11 := C11.swap
    have k0 := C11.fact (.head _) (i := 0) rfl
    have k1 := C11.fact (.head _) (i := 1) rfl
    go_wp2_with fail
    refine (calls_two C11 (at_any _ _ _)).mono ?_
    rintro e w12 ⟨rfl, C12, g12⟩
    have O12 := O11.later g12
    clear k0 k1 C11 O11 g12
    have bux := tmod_abs x2 1000 (by omega)
    have buy := tmod_abs y2 1000 (by omega)
    generalize x2.tmod 1000 = ux at *
    generalize y2.tmod 1000 = uy at *
    have k0 := C12.fact (.head _) (i := 0) rfl
    have k1 := C12.fact (.head _) (i := 1) rfl
    have f0 := C12.free (.head _) (i := 0) rfl
    have f1 := C12.free (.head _) (i := 1) rfl
    go_upto_region 7 with fail
    have C13 := C12.set2 (.int .i64 ux) (.int .i64 uy)
    have O13 := (Oth.set B 1 _ (.int .i64 uy)).own (by omega) ((Oth.set B 0 _ (.int .i64 ux)).own (by omega) O12)
    generalize (w12.setCell ⟨B, 0, none⟩ (.int .i64 ux)).setCell ⟨B, 1, none⟩ (.int .i64 uy) = w13 at *
    clear k0 k1 f0 f1 C12 O12
    have RL := O13.row
    obtain ⟨z, hz⟩ : ∃ z, rchkP L = z := ⟨_, rfl⟩
    obtain ⟨zi, hzi⟩ : ∃ z, insP L (px, py) = z := ⟨_, rfl⟩
    obtain ⟨lw1, lw2⟩ := moves_law (l := L) hT HBL.out bux buy (x := px) (y := py) (by omega) (by omega)
    rw [hz] at lw1
    rw [hzi] at lw2
    have HZ1 := Lib.hid hz
    have HI1 := Lib.hid (show insC L (px, py) = zi by rw [← hzi]; exact ins_box (by dsimp only; omega) (by dsimp only; omega))
    clear hz hzi
    obtain ⟨tp, tq', htp⟩ : ∃ a b, rotN ((T : Int) % 4).toNat px py = (a, b) := ⟨_, _, rfl⟩
    obtain ⟨qx, qy, hq⟩ : ∃ a b, mvt T ux uy (px, py) = (a, b) := ⟨_, _, rfl⟩
    obtain ⟨hqa, bqx, bqy⟩ := move_pt hT (x := px) (y := py) (by omega) (by omega) bux buy htp hq
    rw [hq] at lw2
    have HTP := Lib.hid htp
    have HQA := Lib.hid hqa
    clear htp hq hqa
    have hO0 := Own.nil w13.heap.size w13
    have hI0 : Has w13 [] w13 := Has.nil (Below.refl _ _)
    go_wp2_with fail
    go_loopw [11, 55] (fun s i wr => ∃ k : Nat, k ≤ N ∧ i = .int .i64 k ∧ Own w13.heap.size wr s ((L.map (mvt T ux uy)).take k) ∧ Has w13 [] wr) (fun _ i _ => N - (RowKit.intOf i).toNat)
    case atStart => exact ⟨0, Nat.zero_le _, rfl, hO0, hI0⟩
    case round =>
      clear hO0 hI0
      obtain ⟨k, hk, rfl, O, hI⟩ := hrel
      by_cases hlt : k < N
      · obtain ⟨x1, y1, hp⟩ := some_pt (ps := L) (k := k) (by rw [HLn.out]; exact hlt)
        obtain ⟨q0, q1⟩ := (RL.later hI.low).cells hp
        rw [Nat.zero_add] at q0 q1
        have hb1 := HBL.out k (by rw [HLn.out]; exact hlt)
        rw [pt_of hp] at hb1
        dsimp only at hb1
        obtain ⟨tx, ty, htp⟩ : ∃ a b, rotN ((T : Int) % 4).toNat x1 y1 = (a, b) := ⟨_, _, rfl⟩
        obtain ⟨mx, my, hq⟩ : ∃ a b, mvt T ux uy (x1, y1) = (a, b) := ⟨_, _, rfl⟩
        obtain ⟨hqa, -, -⟩ := move_pt hT (x := x1) (y := y1) (by omega) (by omega) bux buy htp hq
        have HT1 := Lib.hid htp
        have HA1 := Lib.hid hqa
        have hnext := Lib.hid (show (L.map (mvt T ux uy)).take k ++ [(mx, my)] = (L.map (mvt T ux uy)).take (k + 1) by rw [← hq]; exact map_next hp)
        have hlk : ((L.map (mvt T ux uy)).take k).length + [(mx, my)].length ≤ 100000 := by rw [List.length_take]; simp; omega
        have hV : u11.ownBlock ≠ some wr.heap.size := fun e => absurd (O.lt e).2 (Nat.lt_irrefl _)
        have b2 : (k : Int) < N := by omega
        have b3 : (0 : Int) ≤ k := by omega
        have ks : IntKind.i64.wrap ((k : Int) + 1) = ((k + 1 : Nat) : Int) := by rw [IntWalk.i64_in _ (by omega)]; rfl
        have hP1 := hI.push [.int .i64 x1, .int .i64 y1] 24
        change Has w13 _ (wr.alloc (.cells #[.int .i64 x1, .int .i64 y1] 24)) at hP1
        have OP := O.later ((Below.refl _ wr).alloc (Nat.le_refl _) (.cells #[.int .i64 x1, .int .i64 y1] 24))
        clear htp hq hqa hp hI O
        go_upto_region 11 with fail
        generalize wr.alloc (.cells #[.int .i64 x1, .int .i64 y1] 24) = w14 at *
        generalize wr.heap.size = V at *
        have Cd := hP1.drew
        have Od := OP.later ((Below.refl _ w14).drew)
        have HS := Lib.hid (show ∀ w', Has w13 [(V, [.int .i64 x1, .int .i64 y1])] w' → w'.cell? ⟨V, 0, none⟩ = some (.int .i64 x1) ∧ w'.cell? ⟨V, 1, none⟩ = some (.int .i64 y1) ∧ w'.cell? ⟨A, 4, none⟩ = some (.int .u8 c4) ∧ w'.cell? ⟨B, 0, none⟩ = some (.int .i64 ux) ∧ w'.cell? ⟨B, 1, none⟩ = some (.int .i64 uy) from fun w' h => ⟨h.fact (.head _) (i := 0) rfl, h.fact (.head _) (i := 1) rfl, (C13.later h.low).fact (.tail _ (.tail _ (.head _))) (i := 4) rfl, (C13.later h.low).fact (.head _) (i := 0) rfl, (C13.later h.low).fact (.head _) (i := 1) rfl⟩)
        refine wp_region_held_drew (S := fun w' => w'.cell? ⟨V, 0, none⟩ = some (.int .i64 x1) ∧ w'.cell? ⟨V, 1, none⟩ = some (.int .i64 y1) ∧ w'.cell? ⟨A, 4, none⟩ = some (.int .u8 c4) ∧ w'.cell? ⟨B, 0, none⟩ = some (.int .i64 ux) ∧ w'.cell? ⟨B, 1, none⟩ = some (.int .i64 uy)) (by kernel_rfl) (HS.out _ Cd) (fun hHeld => ?_)
        generalize w14.drew = w15 at *
        clear hP1 OP
        refine wpAnyT_begin [0, 1, 2, 3, 4, 7] (by kernel_rfl) (by kernel_rfl) ?_
        refine wpAnyT_take (oi := ⟨some 59, Op.move (Operand.tmp 11), 25, _, _, none⟩) (v := u11) rfl (fun _ _ _ h => h) (by rfl) (by assumption) (fun wS hSw => ?_) ?_
        · (try dsimp only at hSw); go_simp
        simp only [Act.put, List.setIfInBounds_toArray, List.set_cons_zero, List.set_cons_succ]
        refine wpAnyT_take (oi := ⟨some 60, Op.load 24 (Operand.tmp 13), 24, _, _, none⟩) (v := .agg #[.int .i64 x1, .int .i64 y1]) rfl (fun _ _ _ h => h) (by rfl) (by assumption) (fun wS hSw => ?_) ?_
        · (try dsimp only at hSw); go_simp
        simp only [Act.put, List.setIfInBounds_toArray, List.set_cons_zero, List.set_cons_succ]
        refine wpAnyT_take (oi := ⟨some 61, Op.fieldAddr 48 (Operand.tmp 5) 3, 0, _, _, none⟩) (v := .pointer (some ⟨A, 4, none⟩)) rfl (fun _ _ _ h => h) (by rfl) (by assumption) (fun wS hSw => ?_) ?_
        · (try dsimp only at hSw); go_simp
        simp only [Act.put, List.setIfInBounds_toArray, List.set_cons_zero, List.set_cons_succ]
        refine wpAnyT_take (oi := ⟨some 62, Op.load 5 (Operand.tmp 61), 5, _, _, none⟩) (v := .int .u8 c4) rfl (fun _ _ _ h => h) (by rfl) (by assumption) (fun wS hSw => ?_) ?_
        · (try dsimp only at hSw); go_simp
        simp only [Act.put, List.setIfInBounds_toArray, List.set_cons_zero, List.set_cons_succ]
        refine wpAnyT_take (oi := ⟨some 63, Op.convert 5 3 (Operand.tmp 62), 3, _, _, none⟩) (v := .int .i64 c4) rfl (fun _ _ _ h => h) (by rfl) (by assumption) (fun wS hSw => ?_) ?_
        · (try dsimp only at hSw); go_simp
        simp only [Act.put, List.setIfInBounds_toArray, List.set_cons_zero, List.set_cons_succ]
        refine wpAnyT_take (oi := ⟨some 66, Op.load 24 (Operand.tmp 6), 24, _, _, none⟩) (v := .agg #[.int .i64 ux, .int .i64 uy]) rfl (fun _ _ _ h => h) (by rfl) (by assumption) (fun wS hSw => ?_) ?_
        · (try dsimp only at hSw); go_simp
        simp only [Act.put, List.setIfInBounds_toArray, List.set_cons_zero, List.set_cons_succ]
        refine wpAnyT_end ?_
        refine wpAnyH_listed #[true, true, true, true, true, false, false, true, false, false, false, false] (by kernel_rfl) ?_
        refine wpAnyT_begin [5] (by kernel_rfl) (by kernel_rfl) ?_
        refine wpAnyT_take (oi := ⟨some 64, Op.binOp BinOp.rem 3 (Operand.tmp 63) (Operand.const (Value.int IntKind.i64 4)) 3, 3, _, _, none⟩) (v := .int .i64 T) rfl (fun _ _ _ h => h) (by rfl) (by assumption) (fun wS hSw => ?_) ?_
        · (try dsimp only at hSw); go_simp
        simp only [Act.put, List.setIfInBounds_toArray, List.set_cons_zero, List.set_cons_succ]
        refine wpAnyT_end ?_
        refine wpAnyH_listed #[true, true, true, true, true, true, false, true, false, false, false, false] (by kernel_rfl) ?_
        refine wpAnyH_ready (rs := [6]) (by kernel_rfl) (by simp) ?_
        refine AllReadyH.cons (o := ⟨some 65, Op.call { callee := Callee.value (Operand.func 25), args := #[Operand.tmp 60, Operand.tmp 64], argTypes := #[24, 3] }, 24, _, _, none⟩) rfl (fun K hK => ?_) AllReadyH.nil
        go_simp
        go_at_call 25
        refine (calls_two Cd (rturn_is x1 y1 T tx ty HT1.out _)).mono ?_
        rintro e w16 ⟨rfl, C16, g16⟩
        go_wp2_with fail
        clear hHeld
        refine hK.out _ _ (HS.out _ C16) (fun hHeld => ?_)
        clear hK K
        try simp only [List.setIfInBounds_toArray, List.set_cons_zero, List.set_cons_succ]
        refine wpAnyH_listed #[true, true, true, true, true, true, true, true, false, false, false, false] (by kernel_rfl) ?_
        have O16 := Od.later g16
        clear Cd Od g16
        refine wpAnyH_ready (rs := [8]) (by kernel_rfl) (by simp) ?_
        refine AllReadyH.cons (o := ⟨some 67, Op.call { callee := Callee.value (Operand.func 24), args := #[Operand.tmp 65, Operand.tmp 66], argTypes := #[24, 24] }, 24, _, _, none⟩) rfl (fun K hK => ?_) AllReadyH.nil
        go_simp
        go_at_call 24
        refine (calls_two C16 (radd_is tx ty ux uy mx my HA1.out _)).mono ?_
        rintro e w17 ⟨rfl, C17, g17⟩
        go_wp2_with fail
        clear hHeld
        refine hK.out _ _ (HS.out _ C17) (fun hHeld => ?_)
        clear hK K
        try simp only [List.setIfInBounds_toArray, List.set_cons_zero, List.set_cons_succ]
        refine wpAnyH_listed #[true, true, true, true, true, true, true, true, true, false, false, false] (by kernel_rfl) ?_
        have O17 := O16.later g17
        clear C16 O16 g17
        refine wpAnyH_ready (rs := [9]) (by kernel_rfl) (by simp) ?_
        refine AllReadyH.cons (o := ⟨some 68, Op.buildSlice 25 1 #[(0, Operand.tmp 67)], 25, _, _, none⟩) rfl (fun K hK => ?_) AllReadyH.nil
        have C18 := C17.push [.int .i64 mx, .int .i64 my] 24
        have O18 := O17.later ((Below.refl _ w17).alloc (Nat.le_refl _) (.cells #[.int .i64 mx, .int .i64 my] 24))
        go_simp
        change Has w13 _ (w17.alloc (.cells #[.int .i64 mx, .int .i64 my] 24)) at C18
        generalize w17.alloc (.cells #[.int .i64 mx, .int .i64 my] 24) = w18 at *
        generalize w17.heap.size = V2 at *
        clear hHeld
        refine hK.out _ _ (HS.out _ C18.tail) (fun hHeld => ?_)
        clear hK K
        try simp only [List.setIfInBounds_toArray, List.set_cons_zero, List.set_cons_succ]
        refine wpAnyH_listed #[true, true, true, true, true, true, true, true, true, true, false, false] (by kernel_rfl) ?_
        have R18 : RowP w18 (.slice (some ⟨V2, 0, none⟩) 1 1) [(mx, my)] := RowP.block (ps := [(mx, my)]) (c := 1) C18.cells (Nat.le_refl _) (by omega)
        clear C17 O17
        refine wpAnyH_ready (rs := [10]) (by kernel_rfl) (by simp) ?_
        refine AllReadyH.cons (o := ⟨some 69, Op.call { callee := Callee.builtin Builtin.append, args := #[Operand.tmp 59, Operand.tmp 68], argTypes := #[25, 25] }, 25, _, _, none⟩) rfl (fun K hK => ?_) AllReadyH.nil
        refine held_append_pts rfl _ _ rfl rfl O18 rfl R18 hlk C18.low.size ?_
        intro s19 w19 O19 G19
        have C19 := C18.tail.grown2 O18 (by intro p hp; simp only [List.mem_cons, List.not_mem_nil, or_false] at hp; rcases hp with rfl; exact hV) (Nat.le_refl _) G19
        clear O18 R18 G19
        simp only [Act.put, List.setIfInBounds_toArray, List.set_cons_zero, List.set_cons_succ]
        clear hHeld
        refine hK.out _ _ (HS.out _ C19) (fun hHeld => ?_)
        clear hK K
        try simp only [List.setIfInBounds_toArray, List.set_cons_zero, List.set_cons_succ]
        refine wpAnyH_listed #[true, true, true, true, true, true, true, true, true, true, true, false] (by kernel_rfl) ?_
        refine wpAnyT_begin [11] (by kernel_rfl) (by kernel_rfl) ?_
        refine wpAnyT_take (oi := ⟨some 11, Op.assign (Operand.tmp 69), 25, _, _, none⟩) (v := s19) rfl (fun _ _ _ h => h) (by rfl) (by assumption) (fun wS hSw => ?_) ?_
        · (try dsimp only at hSw); go_simp
        simp only [Act.put, List.setIfInBounds_toArray, List.set_cons_zero, List.set_cons_succ]
        refine wpAnyT_end ?_
        refine wpAnyH_listed #[true, true, true, true, true, true, true, true, true, true, true, true] (by kernel_rfl) ?_
        refine wpAnyH_done (by kernel_rfl) ?_ _
        clear hHeld
        rw [hnext.out] at O19
        have I19 : Has w13 [] w19 := C19.tail
        clear C19 HS
        go_wp2_with fail
        go_roundw
        case rel => exact ⟨k + 1, by omega, by go_num, O19, I19⟩
        case measure => simp [RowKit.intOf]; omega
      · obtain rfl : N = k := by omega
        clear hlt hk
        rw [List.take_of_length_le (by rw [List.length_map, HLn.out]; exact Nat.le_refl _)] at O
        obtain ⟨Mv, hMv⟩ : ∃ l, L.map (mvt T ux uy) = l := ⟨_, rfl⟩
        rw [hMv] at O lw1 lw2
        have HZ2 := Lib.hid lw1
        have HI2 := Lib.hid (show insC Mv (qx, qy) = zi by rw [← lw2]; exact ins_box (by dsimp only; omega) (by dsimp only; omega))
        clear hMv lw1 lw2
        have RM := O.row
        replace RL := RL.later hI.low
        have C := C13.later hI.low
        obtain ⟨aM, cM, rfl⟩ := row_form RM
        clear hI O C13
        go_upto_region 13 with fail
        have Cw := C.drew
        replace RM := RM.later ((Below.refl _ wr).drew)
        replace RL := RL.later ((Below.refl _ wr).drew)
        have X0 : Has wr.drew [] wr.drew := Has.nil (Below.refl _ _)
        obtain ⟨wq, hwq⟩ : ∃ wq, wr.drew = wq := ⟨_, rfl⟩
        rw [hwq] at Cw RM RL X0
        have ms1 := Lib.hid (show ∀ w', Has wq [] w' → (w'.cell? ⟨P, 0, none⟩ = some (.int .i64 px) ∧ w'.cell? ⟨P, 1, none⟩ = some (.int .i64 py) ∧ w'.cell? ⟨A, 4, none⟩ = some (.int .u8 c4) ∧ w'.cell? ⟨B, 0, none⟩ = some (.int .i64 ux) ∧ w'.cell? ⟨B, 1, none⟩ = some (.int .i64 uy)) ∧ Has wq [] w' from fun w' h => ⟨⟨(Cw.later h.low).fact (.tail _ (.head _)) (i := 0) rfl, (Cw.later h.low).fact (.tail _ (.head _)) (i := 1) rfl, (Cw.later h.low).fact (.tail _ (.tail _ (.head _))) (i := 4) rfl, (Cw.later h.low).fact (.head _) (i := 0) rfl, (Cw.later h.low).fact (.head _) (i := 1) rfl⟩, h⟩)
        refine wp_region_held_drew (S := (fun w' => (w'.cell? ⟨P, 0, none⟩ = some (.int .i64 px) ∧ w'.cell? ⟨P, 1, none⟩ = some (.int .i64 py) ∧ w'.cell? ⟨A, 4, none⟩ = some (.int .u8 c4) ∧ w'.cell? ⟨B, 0, none⟩ = some (.int .i64 ux) ∧ w'.cell? ⟨B, 1, none⟩ = some (.int .i64 uy)) ∧ Has wq [] w')) (by kernel_rfl) (by rw [hwq]; exact ms1.out _ X0) (fun hHeld => ?_)
        rw [hwq] at hHeld ⊢
        clear hwq
        refine wpAnyT_begin [0, 1, 2, 3, 4, 6] (by kernel_rfl) (by kernel_rfl) ?_
        refine wpAnyT_take (oi := ⟨some 71, Op.load 24 (Operand.tmp 7), 24, _, _, none⟩) (v := .agg #[.int .i64 px, .int .i64 py]) rfl (fun _ _ _ h => h) (by rfl) (by assumption) (fun wS hSw => ?_) ?_
        · (try dsimp only at hSw); go_simp
        simp only [Act.put, List.setIfInBounds_toArray, List.set_cons_zero, List.set_cons_succ]
        refine wpAnyT_take (oi := ⟨some 72, Op.fieldAddr 48 (Operand.tmp 5) 3, 0, _, _, none⟩) (v := .pointer (some ⟨A, 4, none⟩)) rfl (fun _ _ _ h => h) (by rfl) (by assumption) (fun wS hSw => ?_) ?_
        · (try dsimp only at hSw); go_simp
        simp only [Act.put, List.setIfInBounds_toArray, List.set_cons_zero, List.set_cons_succ]
        refine wpAnyT_take (oi := ⟨some 73, Op.load 5 (Operand.tmp 72), 5, _, _, none⟩) (v := .int .u8 c4) rfl (fun _ _ _ h => h) (by rfl) (by assumption) (fun wS hSw => ?_) ?_
        · (try dsimp only at hSw); go_simp
        simp only [Act.put, List.setIfInBounds_toArray, List.set_cons_zero, List.set_cons_succ]
        refine wpAnyT_take (oi := ⟨some 74, Op.convert 5 3 (Operand.tmp 73), 3, _, _, none⟩) (v := .int .i64 c4) rfl (fun _ _ _ h => h) (by rfl) (by assumption) (fun wS hSw => ?_) ?_
        · (try dsimp only at hSw); go_simp
        simp only [Act.put, List.setIfInBounds_toArray, List.set_cons_zero, List.set_cons_succ]
        refine wpAnyT_take (oi := ⟨some 75, Op.binOp BinOp.rem 3 (Operand.tmp 74) (Operand.const (Value.int IntKind.i64 4)) 3, 3, _, _, none⟩) (v := .int .i64 T) rfl (fun _ _ _ h => h) (by rfl) (by assumption) (fun wS hSw => ?_) ?_
        · (try dsimp only at hSw); go_simp
        simp only [Act.put, List.setIfInBounds_toArray, List.set_cons_zero, List.set_cons_succ]
        refine wpAnyT_take (oi := ⟨some 77, Op.load 24 (Operand.tmp 6), 24, _, _, none⟩) (v := .agg #[.int .i64 ux, .int .i64 uy]) rfl (fun _ _ _ h => h) (by rfl) (by assumption) (fun wS hSw => ?_) ?_
        · (try dsimp only at hSw); go_simp
        simp only [Act.put, List.setIfInBounds_toArray, List.set_cons_zero, List.set_cons_succ]
        refine wpAnyT_end ?_
        refine wpAnyH_listed #[true, true, true, true, true, false, true, false, false, false] (by kernel_rfl) ?_
        refine any_ind (X := Sta) (n := fun sx => (2 - sx.n) + (if sx.a.isSome then 0 else 1)) (l := fun sx => #[true, true, true, true, true, decide (1 ≤ sx.n), true, decide (2 ≤ sx.n), sx.a.isSome, false]) (u := fun sx t => (putc 76 (.agg #[.int .i64 tp, .int .i64 tq']) (decide (1 ≤ sx.n)) (putc 78 (.agg #[.int .i64 qx, .int .i64 qy]) (decide (2 ≤ sx.n)) (putp 14 sx.a t)))) (I := fun sx w' => sx.n ≤ 2 ∧ Has wq (bl [.int .i64 0, .int .i64 0] sx.a []) w') (m := 1) ⟨none, none, none, 0⟩ (by kernel_rfl) (by kernel_rfl) (by kernel_rfl) ⟨Nat.zero_le _, X0⟩ ?_ ?_
        · rintro k ih ⟨pa, pb, pc, c⟩ w2 hk ⟨hc, hH⟩
          clear hHeld
          obtain rfl | rfl | rfl : c = 0 ∨ c = 1 ∨ c = 2 := by simp only at hc; omega
          · cases pa with
            | none =>
              simp only [Option.isSome, Bool.false_eq_true, if_false, if_true] at hk
              simp only [putc, putp, Act.put, decide_eq_true_eq, decide_true, decide_false, Nat.le_refl, Nat.reduceLeDiff, List.setIfInBounds_toArray, List.set_cons_zero, List.set_cons_succ]
              refine wpAnyH_listed #[true, true, true, true, true, false, true, false, false, false] (by kernel_rfl) ?_
              refine wpAnyH_ready (rs := [5, 8]) (by kernel_rfl) (by simp) ?_
              refine AllReadyH.cons (o := ⟨some 76, Op.call { callee := Callee.value (Operand.func 25), args := #[Operand.tmp 71, Operand.tmp 75], argTypes := #[24, 3] }, 24, _, _, none⟩) rfl (fun K hK => ?_) (?_)
              · go_simp
                go_at_call 25
                refine (Has.call hH (rturn_is px py T tp tq' HTP.out _)).mono ?_
                rintro e W ⟨rfl, hC⟩
                go_wp2_with fail
                refine hK.out _ _ (ms1.out _ hC) (fun _ => ?_)
                exact wpAnyH_cast rfl (by kernel_rfl) (by kernel_rfl) (ih ⟨none, pc, pc, 1⟩ _ (by simp only [Option.isSome, Bool.false_eq_true, if_false, if_true]; omega) ⟨by simp, hC⟩)
              refine AllReadyH.cons (o := ⟨some 14, Op.alloc 24, 0, _, _, none⟩) rfl (fun K hK => ?_) (AllReadyH.nil)
              · go_simp
                have hC := (hH.push [.int .i64 0, .int .i64 0] 24)
                change Has wq _ (w2.alloc (.cells #[.int .i64 0, .int .i64 0] 24)) at hC
                generalize w2.alloc (.cells #[.int .i64 0, .int .i64 0] 24) = W at *
                generalize w2.heap.size = Q at *
                have hC' : Has wq ([(Q, [.int .i64 0, .int .i64 0])] ++ []) W := hC
                refine hK.out _ _ (ms1.out _ (hC.tail)) (fun _ => ?_)
                exact wpAnyH_cast rfl (by kernel_rfl) (by kernel_rfl) (ih ⟨some Q, pc, pc, 0⟩ _ (by simp only [Option.isSome, Bool.false_eq_true, if_false, if_true]; omega) ⟨by simp, hC⟩)
            | some Q =>
              simp only [Option.isSome, Bool.false_eq_true, if_false, if_true] at hk
              simp only [putc, putp, Act.put, decide_eq_true_eq, decide_true, decide_false, Nat.le_refl, Nat.reduceLeDiff, List.setIfInBounds_toArray, List.set_cons_zero, List.set_cons_succ]
              refine wpAnyH_listed #[true, true, true, true, true, false, true, false, true, false] (by kernel_rfl) ?_
              refine wpAnyH_ready (rs := [5]) (by kernel_rfl) (by simp) ?_
              refine AllReadyH.cons (o := ⟨some 76, Op.call { callee := Callee.value (Operand.func 25), args := #[Operand.tmp 71, Operand.tmp 75], argTypes := #[24, 3] }, 24, _, _, none⟩) rfl (fun K hK => ?_) (AllReadyH.nil)
              · go_simp
                go_at_call 25
                refine (Has.call hH (rturn_is px py T tp tq' HTP.out _)).mono ?_
                rintro e W ⟨rfl, hC⟩
                go_wp2_with fail
                refine hK.out _ _ (ms1.out _ hC.tail) (fun _ => ?_)
                exact wpAnyH_cast rfl (by kernel_rfl) (by kernel_rfl) (ih ⟨some Q, pc, pc, 1⟩ _ (by simp only [Option.isSome, Bool.false_eq_true, if_false, if_true]; omega) ⟨by simp, hC⟩)
          · cases pa with
            | none =>
              simp only [Option.isSome, Bool.false_eq_true, if_false, if_true] at hk
              simp only [putc, putp, Act.put, decide_eq_true_eq, decide_true, decide_false, Nat.le_refl, Nat.reduceLeDiff, List.setIfInBounds_toArray, List.set_cons_zero, List.set_cons_succ]
              refine wpAnyH_listed #[true, true, true, true, true, true, true, false, false, false] (by kernel_rfl) ?_
              refine wpAnyH_ready (rs := [7, 8]) (by kernel_rfl) (by simp) ?_
              refine AllReadyH.cons (o := ⟨some 78, Op.call { callee := Callee.value (Operand.func 24), args := #[Operand.tmp 76, Operand.tmp 77], argTypes := #[24, 24] }, 24, _, _, none⟩) rfl (fun K hK => ?_) (?_)
              · go_simp
                go_at_call 24
                refine (Has.call hH (radd_is tp tq' ux uy qx qy HQA.out _)).mono ?_
                rintro e W ⟨rfl, hC⟩
                go_wp2_with fail
                refine hK.out _ _ (ms1.out _ hC) (fun _ => ?_)
                exact wpAnyH_cast rfl (by kernel_rfl) (by kernel_rfl) (ih ⟨none, pc, pc, 2⟩ _ (by simp only [Option.isSome, Bool.false_eq_true, if_false, if_true]; omega) ⟨by simp, hC⟩)
              refine AllReadyH.cons (o := ⟨some 14, Op.alloc 24, 0, _, _, none⟩) rfl (fun K hK => ?_) (AllReadyH.nil)
              · go_simp
                have hC := (hH.push [.int .i64 0, .int .i64 0] 24)
                change Has wq _ (w2.alloc (.cells #[.int .i64 0, .int .i64 0] 24)) at hC
                generalize w2.alloc (.cells #[.int .i64 0, .int .i64 0] 24) = W at *
                generalize w2.heap.size = Q at *
                have hC' : Has wq ([(Q, [.int .i64 0, .int .i64 0])] ++ []) W := hC
                refine hK.out _ _ (ms1.out _ (hC.tail)) (fun _ => ?_)
                exact wpAnyH_cast rfl (by kernel_rfl) (by kernel_rfl) (ih ⟨some Q, pc, pc, 1⟩ _ (by simp only [Option.isSome, Bool.false_eq_true, if_false, if_true]; omega) ⟨by simp, hC⟩)
            | some Q =>
              simp only [Option.isSome, Bool.false_eq_true, if_false, if_true] at hk
              simp only [putc, putp, Act.put, decide_eq_true_eq, decide_true, decide_false, Nat.le_refl, Nat.reduceLeDiff, List.setIfInBounds_toArray, List.set_cons_zero, List.set_cons_succ]
              refine wpAnyH_listed #[true, true, true, true, true, true, true, false, true, false] (by kernel_rfl) ?_
              refine wpAnyH_ready (rs := [7]) (by kernel_rfl) (by simp) ?_
              refine AllReadyH.cons (o := ⟨some 78, Op.call { callee := Callee.value (Operand.func 24), args := #[Operand.tmp 76, Operand.tmp 77], argTypes := #[24, 24] }, 24, _, _, none⟩) rfl (fun K hK => ?_) (AllReadyH.nil)
              · go_simp
                go_at_call 24
                refine (Has.call hH (radd_is tp tq' ux uy qx qy HQA.out _)).mono ?_
                rintro e W ⟨rfl, hC⟩
                go_wp2_with fail
                refine hK.out _ _ (ms1.out _ hC.tail) (fun _ => ?_)
                exact wpAnyH_cast rfl (by kernel_rfl) (by kernel_rfl) (ih ⟨some Q, pc, pc, 2⟩ _ (by simp only [Option.isSome, Bool.false_eq_true, if_false, if_true]; omega) ⟨by simp, hC⟩)
          · cases pa with
            | none =>
              simp only [Option.isSome, Bool.false_eq_true, if_false, if_true] at hk
              simp only [putc, putp, Act.put, decide_eq_true_eq, decide_true, decide_false, Nat.le_refl, Nat.reduceLeDiff, List.setIfInBounds_toArray, List.set_cons_zero, List.set_cons_succ]
              refine wpAnyH_listed #[true, true, true, true, true, true, true, true, false, false] (by kernel_rfl) ?_
              refine wpAnyH_ready (rs := [8]) (by kernel_rfl) (by simp) ?_
              refine AllReadyH.cons (o := ⟨some 14, Op.alloc 24, 0, _, _, none⟩) rfl (fun K hK => ?_) (AllReadyH.nil)
              · go_simp
                have hC := (hH.push [.int .i64 0, .int .i64 0] 24)
                change Has wq _ (w2.alloc (.cells #[.int .i64 0, .int .i64 0] 24)) at hC
                generalize w2.alloc (.cells #[.int .i64 0, .int .i64 0] 24) = W at *
                generalize w2.heap.size = Q at *
                have hC' : Has wq ([(Q, [.int .i64 0, .int .i64 0])] ++ []) W := hC
                refine hK.out _ _ (ms1.out _ (hC.tail)) (fun _ => ?_)
                exact wpAnyH_cast rfl (by kernel_rfl) (by kernel_rfl) (ih ⟨some Q, pc, pc, 2⟩ _ (by simp only [Option.isSome, Bool.false_eq_true, if_false, if_true]; omega) ⟨by simp, hC⟩)
            | some Q =>
              exact absurd hk (by simp)
        rintro ⟨pa, pb, pc, c⟩ w2 hk ⟨hc, hH⟩
        obtain ⟨Q, rfl, rfl⟩ : ∃ Q, pa = some Q ∧ c = 2 := by
          cases pa <;> simp only [Option.isSome, Bool.false_eq_true, if_false, if_true] at hk <;> simp only at hc <;> first | exact ⟨_, rfl, by omega⟩ | omega
        simp only [putc, putp, Act.put, decide_eq_true_eq, decide_true, decide_false, Nat.le_refl, Nat.reduceLeDiff, List.setIfInBounds_toArray, List.set_cons_zero, List.set_cons_succ]
        have XA := hH
        change Has wq [(Q, [.int .i64 0, .int .i64 0])] w2 at XA
        clear hH hk hc
        refine wpAnyH_listed #[true, true, true, true, true, true, true, true, true, false] (by kernel_rfl) ?_
        refine wpAnyH_ready (rs := [9]) (by kernel_rfl) (by simp) ?_
        refine AllReadyH.cons (o := ⟨none, Op.store 24 (Operand.tmp 14) (Operand.tmp 78), 0, _, _, none⟩) rfl (fun K hK => ?_) AllReadyH.nil
        have k0 := XA.fact (.head _) (i := 0) rfl
        have k1 := XA.fact (.head _) (i := 1) rfl
        have f0 := XA.free (.head _) (i := 0) rfl
        have f1 := XA.free (.head _) (i := 1) rfl
        go_simp
        have C22 : Has wq [(Q, [.int .i64 qx, .int .i64 qy])] (World.setCell (World.setCell w2 ⟨Q, 0, none⟩ (.int .i64 qx)) ⟨Q, 1, none⟩ (.int .i64 qy)) := (XA.set2 (.int .i64 qx) (.int .i64 qy))
        generalize (World.setCell (World.setCell w2 ⟨Q, 0, none⟩ (.int .i64 qx)) ⟨Q, 1, none⟩ (.int .i64 qy)) = w22 at *
        clear k0 f0 k1 f1 XA
        clear hHeld
        refine hK.out _ _ (ms1.out _ C22.tail) (fun hHeld => ?_)
        clear hK K
        try simp only [List.setIfInBounds_toArray, List.set_cons_zero, List.set_cons_succ]
        refine wpAnyH_listed #[true, true, true, true, true, true, true, true, true, true] (by kernel_rfl) ?_
        refine wpAnyH_done (by kernel_rfl) ?_ _
        try clear hHeld
        have Cw2 := Cw.later C22.low
        replace RM := RM.later C22.low
        replace RL := RL.later C22.low
        clear ms1 X0
        go_wp2_with fail
        have HS31 := Lib.hid (show ∀ w', Has wq [(Q, [.int .i64 qx, .int .i64 qy])] w' → (w'.cell? ⟨Q, 0, none⟩ = some (.int .i64 qx) ∧ w'.cell? ⟨Q, 1, none⟩ = some (.int .i64 qy) ∧ w'.cell? ⟨P, 0, none⟩ = some (.int .i64 px) ∧ w'.cell? ⟨P, 1, none⟩ = some (.int .i64 py)) ∧ Has wq [(Q, [.int .i64 qx, .int .i64 qy])] w' from fun w' h => ⟨⟨h.fact (.head _) (i := 0) rfl, h.fact (.head _) (i := 1) rfl, (Cw.later h.low).fact (.tail _ (.head _)) (i := 0) rfl, (Cw.later h.low).fact (.tail _ (.head _)) (i := 1) rfl⟩, h⟩)
        have C31d := C22.drew
        replace RM := RM.later ((Below.refl _ w22).drew)
        replace RL := RL.later ((Below.refl _ w22).drew)
        refine wp_region_held_drew (S := (fun w' => (w'.cell? ⟨Q, 0, none⟩ = some (.int .i64 qx) ∧ w'.cell? ⟨Q, 1, none⟩ = some (.int .i64 qy) ∧ w'.cell? ⟨P, 0, none⟩ = some (.int .i64 px) ∧ w'.cell? ⟨P, 1, none⟩ = some (.int .i64 py)) ∧ Has wq [(Q, [.int .i64 qx, .int .i64 qy])] w')) (by kernel_rfl) (HS31.out _ C31d) (fun hHeld => ?_)
        clear C22
        generalize w22.drew = w31d at *
        refine wpAnyT_begin [0] (by kernel_rfl) (by kernel_rfl) ?_
        refine wpAnyT_take (oi := ⟨some 79, Op.move (Operand.tmp 9), 4, _, _, none⟩) (v := .bool true) rfl (fun _ _ _ h => h) (by rfl) (by assumption) (fun wS hSw => ?_) ?_
        · (try dsimp only at hSw); go_simp
        simp only [Act.put, List.setIfInBounds_toArray, List.set_cons_zero, List.set_cons_succ]
        refine wpAnyT_end ?_
        refine wpAnyH_listed #[true, false, false, false, false, false, false, false, false, false, false, false, false, false, false, false, false, false] (by kernel_rfl) ?_
        refine wpAnyT_begin [1] (by kernel_rfl) (by kernel_rfl) ?_
        refine wpAnyT_take (oi := ⟨some 80, Op.move (Operand.tmp 79), 4, _, _, none⟩) (v := .bool true) rfl (fun _ _ _ h => h) (by rfl) (by assumption) (fun wS hSw => ?_) ?_
        · (try dsimp only at hSw); go_simp
        simp only [Act.put, List.setIfInBounds_toArray, List.set_cons_zero, List.set_cons_succ]
        refine wpAnyT_end ?_
        refine wpAnyH_listed #[true, true, false, false, false, false, false, false, false, false, false, false, false, false, false, false, false, false] (by kernel_rfl) ?_
        refine wpAnyT_begin [2, 4] (by kernel_rfl) (by kernel_rfl) ?_
        refine wpAnyT_take (oi := ⟨some 81, Op.move (Operand.tmp 11), 25, _, _, some (1, true)⟩) (v := .slice aM Mv.length cM) rfl (fun _ _ _ h => h) (by rfl) (by assumption) (fun wS hSw => ?_) ?_
        · (try dsimp only at hSw); go_simp
        simp only [Act.put, List.setIfInBounds_toArray, List.set_cons_zero, List.set_cons_succ]
        refine wpAnyT_take (oi := ⟨some 83, Op.move (Operand.tmp 10), 25, _, _, some (1, true)⟩) (v := .slice (some ⟨g, 0, none⟩) N c5) rfl (fun _ _ _ h => h) (by rfl) (by assumption) (fun wS hSw => ?_) ?_
        · (try dsimp only at hSw); go_simp
        simp only [Act.put, List.setIfInBounds_toArray, List.set_cons_zero, List.set_cons_succ]
        refine wpAnyT_end ?_
        refine wpAnyH_listed #[true, true, true, false, true, false, false, false, false, false, false, false, false, false, false, false, false, false] (by kernel_rfl) ?_
        refine wpAnyH_ready (rs := [3]) (by kernel_rfl) (by simp) ?_
        refine AllReadyH.cons (o := ⟨some 82, Op.call { callee := Callee.value (Operand.func 14), args := #[Operand.tmp 81], argTypes := #[25] }, 31, _, _, some (1, true)⟩) rfl (fun K hK => ?_) AllReadyH.nil
        go_simp
        go_at_call 14
        refine (calls_two C31d (c14 _ _ _ RM _ HZ2.out)).mono ?_
        rintro e w32 ⟨rfl, C32, g32⟩
        go_wp2_with fail
        clear hHeld
        refine hK.out _ _ (HS31.out _ (C32)) (fun hHeld => ?_)
        clear hK K
        try simp only [List.setIfInBounds_toArray, List.set_cons_zero, List.set_cons_succ]
        refine wpAnyH_listed #[true, true, true, true, true, false, false, false, false, false, false, false, false, false, false, false, false, false] (by kernel_rfl) ?_
        replace RM := RM.later g32
        replace RL := RL.later g32
        clear C31d g32
        refine wpAnyH_ready (rs := [5]) (by kernel_rfl) (by simp) ?_
        refine AllReadyH.cons (o := ⟨some 84, Op.call { callee := Callee.value (Operand.func 14), args := #[Operand.tmp 83], argTypes := #[25] }, 31, _, _, some (1, true)⟩) rfl (fun K hK => ?_) AllReadyH.nil
        go_simp
        go_at_call 14
        refine (calls_two C32 (c14 _ _ _ RL _ HZ1.out)).mono ?_
        rintro e w33 ⟨rfl, C33, g33⟩
        go_wp2_with fail
        clear hHeld
        refine hK.out _ _ (HS31.out _ (C33)) (fun hHeld => ?_)
        clear hK K
        try simp only [List.setIfInBounds_toArray, List.set_cons_zero, List.set_cons_succ]
        refine wpAnyH_listed #[true, true, true, true, true, true, false, false, false, false, false, false, false, false, false, false, false, false] (by kernel_rfl) ?_
        replace RM := RM.later g33
        replace RL := RL.later g33
        clear C32 g33
        refine wpAnyT_begin [6] (by kernel_rfl) (by kernel_rfl) ?_
        refine wpAnyT_take (oi := ⟨some 85, Op.binOp BinOp.eql 31 (Operand.tmp 82) (Operand.tmp 84) 31, 4, _, _, some (1, true)⟩) (v := .bool true) rfl (fun _ _ _ h => h) (by rfl) (by assumption) (fun wS hSw => ?_) ?_
        · (try dsimp only at hSw); go_simp
        simp only [Act.put, List.setIfInBounds_toArray, List.set_cons_zero, List.set_cons_succ]
        refine wpAnyT_end ?_
        refine wpAnyH_listed #[true, true, true, true, true, true, true, false, false, false, false, false, false, false, false, false, false, false] (by kernel_rfl) ?_
        refine wpAnyT_begin [7] (by kernel_rfl) (by kernel_rfl) ?_
        refine wpAnyT_take (oi := ⟨some 86, Op.pick (Operand.tmp 80) (Operand.tmp 85) (Operand.const (Value.bool false)), 4, _, _, none⟩) (v := .bool true) rfl (fun _ _ _ h => h) (by rfl) (by assumption) (fun wS hSw => ?_) ?_
        · (try dsimp only at hSw); go_simp
        simp only [Act.put, List.setIfInBounds_toArray, List.set_cons_zero, List.set_cons_succ]
        refine wpAnyT_end ?_
        refine wpAnyH_listed #[true, true, true, true, true, true, true, true, false, false, false, false, false, false, false, false, false, false] (by kernel_rfl) ?_
        refine wpAnyT_begin [8] (by kernel_rfl) (by kernel_rfl) ?_
        refine wpAnyT_take (oi := ⟨some 87, Op.move (Operand.tmp 86), 4, _, _, none⟩) (v := .bool true) rfl (fun _ _ _ h => h) (by rfl) (by assumption) (fun wS hSw => ?_) ?_
        · (try dsimp only at hSw); go_simp
        simp only [Act.put, List.setIfInBounds_toArray, List.set_cons_zero, List.set_cons_succ]
        refine wpAnyT_end ?_
        refine wpAnyH_listed #[true, true, true, true, true, true, true, true, true, false, false, false, false, false, false, false, false, false] (by kernel_rfl) ?_
        refine wpAnyT_begin [9, 10, 12, 13] (by kernel_rfl) (by kernel_rfl) ?_
        refine wpAnyT_take (oi := ⟨some 88, Op.move (Operand.tmp 11), 25, _, _, some (8, true)⟩) (v := .slice aM Mv.length cM) rfl (fun _ _ _ h => h) (by rfl) (by assumption) (fun wS hSw => ?_) ?_
        · (try dsimp only at hSw); go_simp
        simp only [Act.put, List.setIfInBounds_toArray, List.set_cons_zero, List.set_cons_succ]
        refine wpAnyT_take (oi := ⟨some 89, Op.load 24 (Operand.tmp 14), 24, _, _, some (8, true)⟩) (v := .agg #[.int .i64 qx, .int .i64 qy]) rfl (fun _ _ _ h => h) (by rfl) (by assumption) (fun wS hSw => ?_) ?_
        · (try dsimp only at hSw); go_simp
        simp only [Act.put, List.setIfInBounds_toArray, List.set_cons_zero, List.set_cons_succ]
        refine wpAnyT_take (oi := ⟨some 91, Op.move (Operand.tmp 10), 25, _, _, some (8, true)⟩) (v := .slice (some ⟨g, 0, none⟩) N c5) rfl (fun _ _ _ h => h) (by rfl) (by assumption) (fun wS hSw => ?_) ?_
        · (try dsimp only at hSw); go_simp
        simp only [Act.put, List.setIfInBounds_toArray, List.set_cons_zero, List.set_cons_succ]
        refine wpAnyT_take (oi := ⟨some 92, Op.load 24 (Operand.tmp 7), 24, _, _, some (8, true)⟩) (v := .agg #[.int .i64 px, .int .i64 py]) rfl (fun _ _ _ h => h) (by rfl) (by assumption) (fun wS hSw => ?_) ?_
        · (try dsimp only at hSw); go_simp
        simp only [Act.put, List.setIfInBounds_toArray, List.set_cons_zero, List.set_cons_succ]
        refine wpAnyT_end ?_
        refine wpAnyH_listed #[true, true, true, true, true, true, true, true, true, true, true, false, true, true, false, false, false, false] (by kernel_rfl) ?_
        refine wpAnyH_ready (rs := [11]) (by kernel_rfl) (by simp) ?_
        refine AllReadyH.cons (o := ⟨some 90, Op.call { callee := Callee.value (Operand.func 18), args := #[Operand.tmp 88, Operand.tmp 89], argTypes := #[25, 24] }, 3, _, _, some (8, true)⟩) rfl (fun K hK => ?_) AllReadyH.nil
        go_simp
        go_at_call 18
        refine (calls_two C33 (inside_is _ Mv qx qy _ RM zi HI2.out)).mono ?_
        rintro e w34 ⟨rfl, C34, g34⟩
        go_wp2_with fail
        clear hHeld
        refine hK.out _ _ (HS31.out _ (C34)) (fun hHeld => ?_)
        clear hK K
        try simp only [List.setIfInBounds_toArray, List.set_cons_zero, List.set_cons_succ]
        refine wpAnyH_listed #[true, true, true, true, true, true, true, true, true, true, true, true, true, true, false, false, false, false] (by kernel_rfl) ?_
        replace RM := RM.later g34
        replace RL := RL.later g34
        clear C33 g34
        refine wpAnyH_ready (rs := [14]) (by kernel_rfl) (by simp) ?_
        refine AllReadyH.cons (o := ⟨some 93, Op.call { callee := Callee.value (Operand.func 18), args := #[Operand.tmp 91, Operand.tmp 92], argTypes := #[25, 24] }, 3, _, _, some (8, true)⟩) rfl (fun K hK => ?_) AllReadyH.nil
        go_simp
        go_at_call 18
        refine (calls_two C34 (inside_is _ L px py _ RL zi HI1.out)).mono ?_
        rintro e w35 ⟨rfl, C35, g35⟩
        go_wp2_with fail
        clear hHeld
        refine hK.out _ _ (HS31.out _ (C35)) (fun hHeld => ?_)
        clear hK K
        try simp only [List.setIfInBounds_toArray, List.set_cons_zero, List.set_cons_succ]
        refine wpAnyH_listed #[true, true, true, true, true, true, true, true, true, true, true, true, true, true, true, false, false, false] (by kernel_rfl) ?_
        replace RM := RM.later g35
        replace RL := RL.later g35
        clear C34 g35
        refine wpAnyT_begin [15] (by kernel_rfl) (by kernel_rfl) ?_
        refine wpAnyT_take (oi := ⟨some 94, Op.binOp BinOp.eql 3 (Operand.tmp 90) (Operand.tmp 93) 3, 4, _, _, some (8, true)⟩) (v := .bool true) rfl (fun _ _ _ h => h) (by rfl) (by assumption) (fun wS hSw => ?_) ?_
        · (try dsimp only at hSw); go_simp
        simp only [Act.put, List.setIfInBounds_toArray, List.set_cons_zero, List.set_cons_succ]
        refine wpAnyT_end ?_
        refine wpAnyH_listed #[true, true, true, true, true, true, true, true, true, true, true, true, true, true, true, true, false, false] (by kernel_rfl) ?_
        refine wpAnyT_begin [16] (by kernel_rfl) (by kernel_rfl) ?_
        refine wpAnyT_take (oi := ⟨some 95, Op.pick (Operand.tmp 87) (Operand.tmp 94) (Operand.const (Value.bool false)), 4, _, _, none⟩) (v := .bool true) rfl (fun _ _ _ h => h) (by rfl) (by assumption) (fun wS hSw => ?_) ?_
        · (try dsimp only at hSw); go_simp
        simp only [Act.put, List.setIfInBounds_toArray, List.set_cons_zero, List.set_cons_succ]
        refine wpAnyT_end ?_
        refine wpAnyH_listed #[true, true, true, true, true, true, true, true, true, true, true, true, true, true, true, true, true, false] (by kernel_rfl) ?_
        refine wpAnyT_begin [17] (by kernel_rfl) (by kernel_rfl) ?_
        refine wpAnyT_take (oi := ⟨some 8, Op.assign (Operand.tmp 95), 4, _, _, none⟩) (v := .bool true) rfl (fun _ _ _ h => h) (by rfl) (by assumption) (fun wS hSw => ?_) ?_
        · (try dsimp only at hSw); go_simp
        simp only [Act.put, List.setIfInBounds_toArray, List.set_cons_zero, List.set_cons_succ]
        refine wpAnyT_end ?_
        refine wpAnyH_listed #[true, true, true, true, true, true, true, true, true, true, true, true, true, true, true, true, true, true] (by kernel_rfl) ?_
        refine wpAnyH_done (by kernel_rfl) ?_ _
        clear hHeld
        clear HS31
        go_wp2_with fail
        go_ret
        exact ⟨rfl, (Cw.later C35.low).low⟩

end Go.Proofs.Ytmldgjhecoeldaa
