/- The reference of Box. -/
import Derived.Test.YtoehojopoajcaaaBx
namespace Go.Proofs.Ytoehojopoajcaaa
open Go.RowKit Go.Lib

theorem lo_one {sel : Int × Int → Int} {ps : List (Int × Int)} {p : Int × Int} (h : ps[0]? = some p) (b : sel p ≤ 9223372036854775807) : lo sel ps 1 = sel p := by
  unfold lo
  rcases ps with _ | ⟨q, r⟩
  · cases h
  · simp only [List.getElem?_cons_zero, Option.some.injEq] at h
    subst h
    simp only [List.take_succ_cons, List.take_zero, List.foldl_cons, List.foldl_nil]
    omega
theorem hi_one {sel : Int × Int → Int} {ps : List (Int × Int)} {p : Int × Int} (h : ps[0]? = some p) (b : -9223372036854775808 ≤ sel p) : hi sel ps 1 = sel p := by
  unfold hi
  rcases ps with _ | ⟨q, r⟩
  · cases h
  · simp only [List.getElem?_cons_zero, Option.some.injEq] at h
    subst h
    simp only [List.take_succ_cons, List.take_zero, List.foldl_cons, List.foldl_nil]
    omega
/-- Points of int. -/
def OkP (ps : List (Int × Int)) : Prop := ∀ p ∈ ps, (-9223372036854775808 ≤ p.1 ∧ p.1 ≤ 9223372036854775807) ∧ (-9223372036854775808 ≤ p.2 ∧ p.2 ≤ 9223372036854775807)

set_option linter.unusedSimpArgs false in
set_option maxRecDepth 100000 in
set_option maxHeartbeats 8000000 in
theorem rbox_any (v : Value) (ps : List (Int × Int)) (w : World) (hv : RowP w v ps) (hok : OkP ps) :
    Calls Try.prog 25 #[v] w fun e w' => e = .returned (.agg #[.int .i64 (bxo ps).1.1, .int .i64 (bxo ps).1.2, .int .i64 (bxo ps).2.1, .int .i64 (bxo ps).2.2]) ∧ Below w.heap.size w w' := by
  have C0 := has1 (w := w) [.int .i64 0, .int .i64 0, .int .i64 0, .int .i64 0] 24
  have hv0 := hv
  obtain ⟨a, cap, rfl, hc1, hc2, hq⟩ := hv0
  by_cases hn : ps.length = 0
  · rw [show bxo ps = ((0, 0), (0, 0)) by unfold bxo; rw [if_pos hn]]
    rw [hn] at hc1 ⊢
    clear hv
    go_enter Try.func25, Try.ntmps25
    go_upto_region 1 with fail
    change Has w _ (w.alloc (.cells #[.int .i64 0, .int .i64 0, .int .i64 0, .int .i64 0] 24)) at C0
    generalize w.alloc (.cells #[.int .i64 0, .int .i64 0, .int .i64 0, .int .i64 0] 24) = w1 at *
    have f0 := C0.free (.head _) (i := 0) rfl
    have f1 := C0.free (.head _) (i := 1) rfl
    have f2 := C0.free (.head _) (i := 2) rfl
    have f3 := C0.free (.head _) (i := 3) rfl
    have k0 := C0.fact (.head _) (i := 0) rfl
    have k1 := C0.fact (.head _) (i := 1) rfl
    have k2 := C0.fact (.head _) (i := 2) rfl
    have k3 := C0.fact (.head _) (i := 3) rfl
    go_wp2_with fail
    have C1 := (((C0.set 0 (by simp) (.int .i64 0)).set 1 (by simp) (.int .i64 0)).set 2 (by simp) (.int .i64 0)).set 3 (by simp) (.int .i64 0)
    change Has w [(w.heap.size, [.int .i64 0, .int .i64 0, .int .i64 0, .int .i64 0])] ((((w1.setCell ⟨w.heap.size, 0, none⟩ (.int .i64 0)).setCell ⟨w.heap.size, 1, none⟩ (.int .i64 0)).setCell ⟨w.heap.size, 2, none⟩ (.int .i64 0)).setCell ⟨w.heap.size, 3, none⟩ (.int .i64 0)) at C1
    generalize (((w1.setCell ⟨w.heap.size, 0, none⟩ (.int .i64 0)).setCell ⟨w.heap.size, 1, none⟩ (.int .i64 0)).setCell ⟨w.heap.size, 2, none⟩ (.int .i64 0)).setCell ⟨w.heap.size, 3, none⟩ (.int .i64 0) = w2 at *
    have d0 := C1.fact (.head _) (i := 0) rfl
    have d1 := C1.fact (.head _) (i := 1) rfl
    have d2 := C1.fact (.head _) (i := 2) rfl
    have d3 := C1.fact (.head _) (i := 3) rfl
    exact bodyPost_ret (v := .agg #[.int .i64 0, .int .i64 0, .int .i64 0, .int .i64 0]) (by simp [results, Try.results25, go_sem, d0, d1, d2, d3]) rfl ⟨rfl, C1.low⟩
  · have hne : 1 ≤ ps.length := by omega
    replace hq : ∃ b o, a = some ⟨b, o, none⟩ ∧ ∀ i p, ps[i]? = some p → w.cell? ⟨b, o + i * 2, none⟩ = some (.int .i64 p.1) ∧ w.cell? ⟨b, o + i * 2 + 1, none⟩ = some (.int .i64 p.2) := by
      rcases hq with rfl | h
      · simp at hne
      · exact h
    obtain ⟨b, o, rfl, hq⟩ := hq
    obtain ⟨⟨x, y⟩, hp⟩ : ∃ p, ps[0]? = some p := ⟨_, List.getElem?_eq_getElem (by omega)⟩
    have q0 := hq 0 _ hp
    simp only [Nat.zero_mul, Nat.add_zero] at q0
    have bp := hok _ (List.mem_of_getElem? hp)
    simp only at bp
    have L0 := lo_one (sel := Prod.fst) hp bp.1.2
    have L1 := lo_one (sel := Prod.snd) hp bp.2.2
    have H0 := hi_one (sel := Prod.fst) hp bp.1.1
    have H1 := hi_one (sel := Prod.snd) hp bp.2.1
    simp only at L0 L1 H0 H1
    have hbx := Lib.hid (show bxo ps = ((lo Prod.fst ps ps.length, lo Prod.snd ps ps.length), (hi Prod.fst ps ps.length, hi Prod.snd ps ps.length)) by unfold bxo; rw [if_neg hn])
    have HQ := Lib.hid hq
    have HP := Lib.hid q0
    clear hv hq hp bp q0 hok
    go_enter Try.func25, Try.ntmps25
    go_upto_region 1 with fail
    change Has w _ (w.alloc (.cells #[.int .i64 0, .int .i64 0, .int .i64 0, .int .i64 0] 24)) at C0
    generalize w.alloc (.cells #[.int .i64 0, .int .i64 0, .int .i64 0, .int .i64 0] 24) = w1 at *
    go_upto_region 3 with fail
    have X0 := C0.drew
    refine wp_region_held_drew (S := (fun W => (W.cell? ⟨b, o, none⟩ = some (.int .i64 x) ∧ W.cell? ⟨b, o + 1, none⟩ = some (.int .i64 y)) ∧ Has w [(w.heap.size, [.int .i64 0, .int .i64 0, .int .i64 0, .int .i64 0])] W)) (by kernel_rfl) (⟨⟨Kept.of X0.low _ _ HP.out.1, Kept.of X0.low _ _ HP.out.2⟩, X0⟩) (fun hHeld => ?_)
    generalize w1.drew = wd at *
    refine wpAnyT_begin [0, 1, 2, 3, 4, 5, 6, 7, 8, 9, 10, 11, 12, 13, 14, 15, 16] (by kernel_rfl) (by kernel_rfl) ?_
    refine wpAnyT_take (oi := ⟨some 9, Op.move (Operand.tmp 0), 22, _, _, none⟩) (v := .slice (some ⟨b, o, none⟩) ps.length cap) rfl (fun _ _ _ h => h) (by rfl) (by assumption) (fun wS hSw => ?_) ?_
    · (try dsimp only at hSw); go_simp
    simp only [Act.put, List.setIfInBounds_toArray, List.set_cons_zero, List.set_cons_succ]
    refine wpAnyT_take (oi := ⟨some 10, Op.indexAddr 22 (Operand.tmp 9) (Operand.const (Value.int IntKind.i64 0)), 0, _, _, none⟩) (v := .pointer (some ⟨b, o, none⟩)) rfl (fun _ _ _ h => h) (by rfl) (by assumption) (fun wS hSw => ?_) ?_
    · (try dsimp only at hSw); go_simp
    simp only [Act.put, List.setIfInBounds_toArray, List.set_cons_zero, List.set_cons_succ]
    refine wpAnyT_take (oi := ⟨some 11, Op.fieldAddr 28 (Operand.tmp 10) 0, 0, _, _, none⟩) (v := .pointer (some ⟨b, o, none⟩)) rfl (fun _ _ _ h => h) (by rfl) (by assumption) (fun wS hSw => ?_) ?_
    · (try dsimp only at hSw); go_simp
    simp only [Act.put, List.setIfInBounds_toArray, List.set_cons_zero, List.set_cons_succ]
    refine wpAnyT_take (oi := ⟨some 12, Op.load 3 (Operand.tmp 11), 3, _, _, none⟩) (v := .int .i64 x) rfl (fun _ _ _ h => h) (by rfl) (by assumption) (fun wS hSw => ?_) ?_
    · (try dsimp only at hSw); go_simp
    simp only [Act.put, List.setIfInBounds_toArray, List.set_cons_zero, List.set_cons_succ]
    refine wpAnyT_take (oi := ⟨some 13, Op.move (Operand.tmp 0), 22, _, _, none⟩) (v := .slice (some ⟨b, o, none⟩) ps.length cap) rfl (fun _ _ _ h => h) (by rfl) (by assumption) (fun wS hSw => ?_) ?_
    · (try dsimp only at hSw); go_simp
    simp only [Act.put, List.setIfInBounds_toArray, List.set_cons_zero, List.set_cons_succ]
    refine wpAnyT_take (oi := ⟨some 14, Op.indexAddr 22 (Operand.tmp 13) (Operand.const (Value.int IntKind.i64 0)), 0, _, _, none⟩) (v := .pointer (some ⟨b, o, none⟩)) rfl (fun _ _ _ h => h) (by rfl) (by assumption) (fun wS hSw => ?_) ?_
    · (try dsimp only at hSw); go_simp
    simp only [Act.put, List.setIfInBounds_toArray, List.set_cons_zero, List.set_cons_succ]
    refine wpAnyT_take (oi := ⟨some 15, Op.fieldAddr 28 (Operand.tmp 14) 1, 0, _, _, none⟩) (v := .pointer (some ⟨b, o + 1, none⟩)) rfl (fun _ _ _ h => h) (by rfl) (by assumption) (fun wS hSw => ?_) ?_
    · (try dsimp only at hSw); go_simp
    simp only [Act.put, List.setIfInBounds_toArray, List.set_cons_zero, List.set_cons_succ]
    refine wpAnyT_take (oi := ⟨some 16, Op.load 3 (Operand.tmp 15), 3, _, _, none⟩) (v := .int .i64 y) rfl (fun _ _ _ h => h) (by rfl) (by assumption) (fun wS hSw => ?_) ?_
    · (try dsimp only at hSw); go_simp
    simp only [Act.put, List.setIfInBounds_toArray, List.set_cons_zero, List.set_cons_succ]
    refine wpAnyT_take (oi := ⟨some 17, Op.move (Operand.tmp 0), 22, _, _, none⟩) (v := .slice (some ⟨b, o, none⟩) ps.length cap) rfl (fun _ _ _ h => h) (by rfl) (by assumption) (fun wS hSw => ?_) ?_
    · (try dsimp only at hSw); go_simp
    simp only [Act.put, List.setIfInBounds_toArray, List.set_cons_zero, List.set_cons_succ]
    refine wpAnyT_take (oi := ⟨some 18, Op.indexAddr 22 (Operand.tmp 17) (Operand.const (Value.int IntKind.i64 0)), 0, _, _, none⟩) (v := .pointer (some ⟨b, o, none⟩)) rfl (fun _ _ _ h => h) (by rfl) (by assumption) (fun wS hSw => ?_) ?_
    · (try dsimp only at hSw); go_simp
    simp only [Act.put, List.setIfInBounds_toArray, List.set_cons_zero, List.set_cons_succ]
    refine wpAnyT_take (oi := ⟨some 19, Op.fieldAddr 28 (Operand.tmp 18) 0, 0, _, _, none⟩) (v := .pointer (some ⟨b, o, none⟩)) rfl (fun _ _ _ h => h) (by rfl) (by assumption) (fun wS hSw => ?_) ?_
    · (try dsimp only at hSw); go_simp
    simp only [Act.put, List.setIfInBounds_toArray, List.set_cons_zero, List.set_cons_succ]
    refine wpAnyT_take (oi := ⟨some 20, Op.load 3 (Operand.tmp 19), 3, _, _, none⟩) (v := .int .i64 x) rfl (fun _ _ _ h => h) (by rfl) (by assumption) (fun wS hSw => ?_) ?_
    · (try dsimp only at hSw); go_simp
    simp only [Act.put, List.setIfInBounds_toArray, List.set_cons_zero, List.set_cons_succ]
    refine wpAnyT_take (oi := ⟨some 21, Op.move (Operand.tmp 0), 22, _, _, none⟩) (v := .slice (some ⟨b, o, none⟩) ps.length cap) rfl (fun _ _ _ h => h) (by rfl) (by assumption) (fun wS hSw => ?_) ?_
    · (try dsimp only at hSw); go_simp
    simp only [Act.put, List.setIfInBounds_toArray, List.set_cons_zero, List.set_cons_succ]
    refine wpAnyT_take (oi := ⟨some 22, Op.indexAddr 22 (Operand.tmp 21) (Operand.const (Value.int IntKind.i64 0)), 0, _, _, none⟩) (v := .pointer (some ⟨b, o, none⟩)) rfl (fun _ _ _ h => h) (by rfl) (by assumption) (fun wS hSw => ?_) ?_
    · (try dsimp only at hSw); go_simp
    simp only [Act.put, List.setIfInBounds_toArray, List.set_cons_zero, List.set_cons_succ]
    refine wpAnyT_take (oi := ⟨some 23, Op.fieldAddr 28 (Operand.tmp 22) 1, 0, _, _, none⟩) (v := .pointer (some ⟨b, o + 1, none⟩)) rfl (fun _ _ _ h => h) (by rfl) (by assumption) (fun wS hSw => ?_) ?_
    · (try dsimp only at hSw); go_simp
    simp only [Act.put, List.setIfInBounds_toArray, List.set_cons_zero, List.set_cons_succ]
    refine wpAnyT_take (oi := ⟨some 24, Op.load 3 (Operand.tmp 23), 3, _, _, none⟩) (v := .int .i64 y) rfl (fun _ _ _ h => h) (by rfl) (by assumption) (fun wS hSw => ?_) ?_
    · (try dsimp only at hSw); go_simp
    simp only [Act.put, List.setIfInBounds_toArray, List.set_cons_zero, List.set_cons_succ]
    refine wpAnyT_take (oi := ⟨some 25, Op.build 24 #[(0, Operand.tmp 12), (1, Operand.tmp 16), (2, Operand.tmp 20), (3, Operand.tmp 24)], 24, _, _, none⟩) (v := .agg #[.int .i64 x, .int .i64 y, .int .i64 x, .int .i64 y]) rfl (fun _ _ _ h => h) (by rfl) (by assumption) (fun wS hSw => ?_) ?_
    · (try dsimp only at hSw); go_simp
    simp only [Act.put, List.setIfInBounds_toArray, List.set_cons_zero, List.set_cons_succ]
    refine wpAnyT_end ?_
    refine wpAnyH_listed #[true, true, true, true, true, true, true, true, true, true, true, true, true, true, true, true, true, false, false] (by kernel_rfl) ?_
    refine wpAnyH_ready (rs := [17]) (by kernel_rfl) (by simp) ?_
    refine AllReadyH.cons (o := ⟨some 3, Op.alloc 24, 0, _, _, none⟩) rfl (fun K hK => ?_) AllReadyH.nil
    go_simp
    have X1 := X0.push [.int .i64 0, .int .i64 0, .int .i64 0, .int .i64 0] 24
    change Has w _ (wd.alloc (.cells #[.int .i64 0, .int .i64 0, .int .i64 0, .int .i64 0] 24)) at X1
    generalize wd.alloc (.cells #[.int .i64 0, .int .i64 0, .int .i64 0, .int .i64 0] 24) = w2 at *
    generalize wd.heap.size = R at *
    clear hHeld
    refine hK.out _ _ (⟨⟨Kept.of X1.low _ _ HP.out.1, Kept.of X1.low _ _ HP.out.2⟩, X1.tail⟩) (fun hHeld => ?_)
    clear hK K
    try simp only [List.setIfInBounds_toArray, List.set_cons_zero, List.set_cons_succ]
    refine wpAnyH_listed #[true, true, true, true, true, true, true, true, true, true, true, true, true, true, true, true, true, true, false] (by kernel_rfl) ?_
    refine wpAnyH_ready (rs := [18]) (by kernel_rfl) (by simp) ?_
    refine AllReadyH.cons (o := ⟨none, Op.store 24 (Operand.tmp 3) (Operand.tmp 25), 0, _, _, none⟩) rfl (fun K hK => ?_) AllReadyH.nil
    have k0 := X1.fact (.head _) (i := 0) rfl
    have k1 := X1.fact (.head _) (i := 1) rfl
    have k2 := X1.fact (.head _) (i := 2) rfl
    have k3 := X1.fact (.head _) (i := 3) rfl
    have f0 := X1.free (.head _) (i := 0) rfl
    have f1 := X1.free (.head _) (i := 1) rfl
    have f2 := X1.free (.head _) (i := 2) rfl
    have f3 := X1.free (.head _) (i := 3) rfl
    go_simp
    have X2 : Has w [(R, [.int .i64 x, .int .i64 y, .int .i64 x, .int .i64 y]), (w.heap.size, [.int .i64 0, .int .i64 0, .int .i64 0, .int .i64 0])] (World.setCell (World.setCell (World.setCell (World.setCell w2 ⟨R, 0, none⟩ (.int .i64 x)) ⟨R, 1, none⟩ (.int .i64 y)) ⟨R, 2, none⟩ (.int .i64 x)) ⟨R, 3, none⟩ (.int .i64 y)) := ((((X1.set 0 (by simp) (.int .i64 x)).set 1 (by simp) (.int .i64 y)).set 2 (by simp) (.int .i64 x)).set 3 (by simp) (.int .i64 y))
    generalize (World.setCell (World.setCell (World.setCell (World.setCell w2 ⟨R, 0, none⟩ (.int .i64 x)) ⟨R, 1, none⟩ (.int .i64 y)) ⟨R, 2, none⟩ (.int .i64 x)) ⟨R, 3, none⟩ (.int .i64 y)) = w3 at *
    clear k0 k1 k2 k3 f0 f1 f2 f3 X1
    clear hHeld
    refine hK.out _ _ (⟨⟨Kept.of X2.low _ _ HP.out.1, Kept.of X2.low _ _ HP.out.2⟩, X2.tail⟩) (fun hHeld => ?_)
    clear hK K
    try simp only [List.setIfInBounds_toArray, List.set_cons_zero, List.set_cons_succ]
    refine wpAnyH_listed #[true, true, true, true, true, true, true, true, true, true, true, true, true, true, true, true, true, true, true] (by kernel_rfl) ?_
    refine wpAnyH_done (by kernel_rfl) ?_ _
    clear hHeld X0 C0
    go_wp2_with fail
    go_loopw [4] (fun i wr => ∃ k : Nat, (1 ≤ k ∧ k ≤ ps.length) ∧ i = .int .i64 k ∧ Has w [(R, [.int .i64 (lo Prod.fst ps k), .int .i64 (lo Prod.snd ps k), .int .i64 (hi Prod.fst ps k), .int .i64 (hi Prod.snd ps k)]), (w.heap.size, [.int .i64 0, .int .i64 0, .int .i64 0, .int .i64 0])] wr) (fun i _ => ps.length - (intOf i).toNat)
    case atStart => exact ⟨1, by omega, rfl, by rw [L0, L1, H0, H1]; exact X2⟩
    case round =>
      clear X2 L0 L1 H0 H1
      obtain ⟨k, hk, rfl, G0⟩ := hrel
      by_cases hlt : k < ps.length
      · obtain ⟨⟨p, q⟩, hp⟩ : ∃ p, ps[k]? = some p := ⟨_, List.getElem?_eq_getElem hlt⟩
        have q0 := HQ.out k _ hp
        simp only at q0
        have hpk1 : pk Prod.fst ps k = p := by unfold pk; rw [hp]; rfl
        have hpk2 : pk Prod.snd ps k = q := by unfold pk; rw [hp]; rfl
        have n1 := lo_next (sel := Prod.fst) hlt
        have n2 := lo_next (sel := Prod.snd) hlt
        have n3 := hi_next (sel := Prod.fst) hlt
        have n4 := hi_next (sel := Prod.snd) hlt
        rw [hpk1] at n1 n3
        rw [hpk2] at n2 n4
        generalize lo Prod.fst ps k = A at *
        generalize lo Prod.snd ps k = B at *
        generalize hi Prod.fst ps k = C at *
        generalize hi Prod.snd ps k = D at *
        obtain ⟨A', hA'⟩ : ∃ v, min A p = v := ⟨_, rfl⟩
        have mA' : (if p < A then p else A) = A' := by rw [← hA']; split <;> omega
        obtain ⟨B', hB'⟩ : ∃ v, min B q = v := ⟨_, rfl⟩
        have mB' : (if q < B then q else B) = B' := by rw [← hB']; split <;> omega
        obtain ⟨C', hC'⟩ : ∃ v, max C p = v := ⟨_, rfl⟩
        have mC' : (if C < p then p else C) = C' := by rw [← hC']; split <;> omega
        obtain ⟨D', hD'⟩ : ∃ v, max D q = v := ⟨_, rfl⟩
        have mD' : (if D < q then q else D) = D' := by rw [← hD']; split <;> omega
        rw [hA'] at n1
        rw [hB'] at n2
        rw [hC'] at n3
        rw [hD'] at n4
        have HN := Lib.hid (And.intro n1 (And.intro n2 (And.intro n3 n4)))
        have HP2 := Lib.hid q0
        clear hp q0 hpk1 hpk2 n1 n2 n3 n4 hA' hB' hC' hD'
        go_upto_region 7 with fail
        have X0 := G0.drew
        refine plain_Z 33 (fun W => (W.cell? ⟨R, 0, none⟩ = some (.int .i64 A) ∧ W.cell? ⟨R, 1, none⟩ = some (.int .i64 B) ∧ W.cell? ⟨R, 2, none⟩ = some (.int .i64 C) ∧ W.cell? ⟨R, 3, none⟩ = some (.int .i64 D)) ∧ W.cell? ⟨b, o + k * 2, none⟩ = some (.int .i64 p) ∧ W.cell? ⟨b, o + k * 2 + 1, none⟩ = some (.int .i64 q)) (by kernel_rfl) ?_
        have hHeld : (wr.drew.cell? ⟨R, 0, none⟩ = some (.int .i64 A) ∧ wr.drew.cell? ⟨R, 1, none⟩ = some (.int .i64 B) ∧ wr.drew.cell? ⟨R, 2, none⟩ = some (.int .i64 C) ∧ wr.drew.cell? ⟨R, 3, none⟩ = some (.int .i64 D)) ∧ wr.drew.cell? ⟨b, o + k * 2, none⟩ = some (.int .i64 p) ∧ wr.drew.cell? ⟨b, o + k * 2 + 1, none⟩ = some (.int .i64 q) := ⟨⟨X0.fact (.head _) (i := 0) rfl, X0.fact (.head _) (i := 1) rfl, X0.fact (.head _) (i := 2) rfl, X0.fact (.head _) (i := 3) rfl⟩, Kept.of X0.low _ _ HP2.out.1, Kept.of X0.low _ _ HP2.out.2⟩
        generalize wr.drew = A0 at *
        refine wpAnyZ_take (i := 0) (oi := ⟨some 32, Op.fieldAddr 24 (Operand.tmp 3) 0, 0, _, _, none⟩) (oz := ⟨none, Op.store 24 (Operand.tmp 3) (Operand.tmp 64), 0, _, _, none⟩) (v := .pointer (some ⟨R, 0, none⟩)) rfl rfl (by kernel_rfl) (fun _ _ _ h => h) (by rfl) (by assumption) (fun wS hSw => ?_) ?_
        · (try dsimp only at hSw); go_simp
        simp only [Act.put, List.setIfInBounds_toArray, List.set_cons_zero, List.set_cons_succ]
        refine wpAnyZ_take (i := 1) (oi := ⟨some 33, Op.load 3 (Operand.tmp 32), 3, _, _, none⟩) (oz := ⟨none, Op.store 24 (Operand.tmp 3) (Operand.tmp 64), 0, _, _, none⟩) (v := .int .i64 A) rfl rfl (by kernel_rfl) (fun _ _ _ h => h) (by rfl) (by assumption) (fun wS hSw => ?_) ?_
        · (try dsimp only at hSw); go_simp
        simp only [Act.put, List.setIfInBounds_toArray, List.set_cons_zero, List.set_cons_succ]
        refine wpAnyZ_take (i := 2) (oi := ⟨some 34, Op.move (Operand.tmp 0), 22, _, _, none⟩) (oz := ⟨none, Op.store 24 (Operand.tmp 3) (Operand.tmp 64), 0, _, _, none⟩) (v := .slice (some ⟨b, o, none⟩) ps.length cap) rfl rfl (by kernel_rfl) (fun _ _ _ h => h) (by rfl) (by assumption) (fun wS hSw => ?_) ?_
        · (try dsimp only at hSw); go_simp
        simp only [Act.put, List.setIfInBounds_toArray, List.set_cons_zero, List.set_cons_succ]
        refine wpAnyZ_take (i := 3) (oi := ⟨some 35, Op.move (Operand.tmp 4), 3, _, _, none⟩) (oz := ⟨none, Op.store 24 (Operand.tmp 3) (Operand.tmp 64), 0, _, _, none⟩) (v := .int .i64 k) rfl rfl (by kernel_rfl) (fun _ _ _ h => h) (by rfl) (by assumption) (fun wS hSw => ?_) ?_
        · (try dsimp only at hSw); go_simp
        simp only [Act.put, List.setIfInBounds_toArray, List.set_cons_zero, List.set_cons_succ]
        refine wpAnyZ_take (i := 4) (oi := ⟨some 36, Op.indexAddr 22 (Operand.tmp 34) (Operand.tmp 35), 0, _, _, none⟩) (oz := ⟨none, Op.store 24 (Operand.tmp 3) (Operand.tmp 64), 0, _, _, none⟩) (v := .pointer (some ⟨b, o + k * 2, none⟩)) rfl rfl (by kernel_rfl) (fun _ _ _ h => h) (by rfl) (by assumption) (fun wS hSw => ?_) ?_
        · (try dsimp only at hSw); go_simp
        simp only [Act.put, List.setIfInBounds_toArray, List.set_cons_zero, List.set_cons_succ]
        refine wpAnyZ_take (i := 5) (oi := ⟨some 37, Op.fieldAddr 28 (Operand.tmp 36) 0, 0, _, _, none⟩) (oz := ⟨none, Op.store 24 (Operand.tmp 3) (Operand.tmp 64), 0, _, _, none⟩) (v := .pointer (some ⟨b, o + k * 2, none⟩)) rfl rfl (by kernel_rfl) (fun _ _ _ h => h) (by rfl) (by assumption) (fun wS hSw => ?_) ?_
        · (try dsimp only at hSw); go_simp
        simp only [Act.put, List.setIfInBounds_toArray, List.set_cons_zero, List.set_cons_succ]
        refine wpAnyZ_take (i := 6) (oi := ⟨some 38, Op.load 3 (Operand.tmp 37), 3, _, _, none⟩) (oz := ⟨none, Op.store 24 (Operand.tmp 3) (Operand.tmp 64), 0, _, _, none⟩) (v := .int .i64 p) rfl rfl (by kernel_rfl) (fun _ _ _ h => h) (by rfl) (by assumption) (fun wS hSw => ?_) ?_
        · (try dsimp only at hSw); go_simp
        simp only [Act.put, List.setIfInBounds_toArray, List.set_cons_zero, List.set_cons_succ]
        refine wpAnyZ_take (i := 7) (oi := ⟨some 39, Op.call { callee := Callee.builtin Builtin.min, args := #[Operand.tmp 33, Operand.tmp 38], argTypes := #[3, 3] }, 3, _, _, none⟩) (oz := ⟨none, Op.store 24 (Operand.tmp 3) (Operand.tmp 64), 0, _, _, none⟩) (v := .int .i64 A') rfl rfl (by kernel_rfl) (fun _ _ _ h => h) (by rfl) (by assumption) (fun wS hSw => ?_) ?_
        · (try dsimp only at hSw); go_simp
        simp only [Act.put, List.setIfInBounds_toArray, List.set_cons_zero, List.set_cons_succ]
        refine wpAnyZ_take (i := 8) (oi := ⟨some 40, Op.fieldAddr 24 (Operand.tmp 3) 1, 0, _, _, none⟩) (oz := ⟨none, Op.store 24 (Operand.tmp 3) (Operand.tmp 64), 0, _, _, none⟩) (v := .pointer (some ⟨R, 1, none⟩)) rfl rfl (by kernel_rfl) (fun _ _ _ h => h) (by rfl) (by assumption) (fun wS hSw => ?_) ?_
        · (try dsimp only at hSw); go_simp
        simp only [Act.put, List.setIfInBounds_toArray, List.set_cons_zero, List.set_cons_succ]
        refine wpAnyZ_take (i := 9) (oi := ⟨some 41, Op.load 3 (Operand.tmp 40), 3, _, _, none⟩) (oz := ⟨none, Op.store 24 (Operand.tmp 3) (Operand.tmp 64), 0, _, _, none⟩) (v := .int .i64 B) rfl rfl (by kernel_rfl) (fun _ _ _ h => h) (by rfl) (by assumption) (fun wS hSw => ?_) ?_
        · (try dsimp only at hSw); go_simp
        simp only [Act.put, List.setIfInBounds_toArray, List.set_cons_zero, List.set_cons_succ]
        refine wpAnyZ_take (i := 10) (oi := ⟨some 42, Op.move (Operand.tmp 0), 22, _, _, none⟩) (oz := ⟨none, Op.store 24 (Operand.tmp 3) (Operand.tmp 64), 0, _, _, none⟩) (v := .slice (some ⟨b, o, none⟩) ps.length cap) rfl rfl (by kernel_rfl) (fun _ _ _ h => h) (by rfl) (by assumption) (fun wS hSw => ?_) ?_
        · (try dsimp only at hSw); go_simp
        simp only [Act.put, List.setIfInBounds_toArray, List.set_cons_zero, List.set_cons_succ]
        refine wpAnyZ_take (i := 11) (oi := ⟨some 43, Op.move (Operand.tmp 4), 3, _, _, none⟩) (oz := ⟨none, Op.store 24 (Operand.tmp 3) (Operand.tmp 64), 0, _, _, none⟩) (v := .int .i64 k) rfl rfl (by kernel_rfl) (fun _ _ _ h => h) (by rfl) (by assumption) (fun wS hSw => ?_) ?_
        · (try dsimp only at hSw); go_simp
        simp only [Act.put, List.setIfInBounds_toArray, List.set_cons_zero, List.set_cons_succ]
        refine wpAnyZ_take (i := 12) (oi := ⟨some 44, Op.indexAddr 22 (Operand.tmp 42) (Operand.tmp 43), 0, _, _, none⟩) (oz := ⟨none, Op.store 24 (Operand.tmp 3) (Operand.tmp 64), 0, _, _, none⟩) (v := .pointer (some ⟨b, o + k * 2, none⟩)) rfl rfl (by kernel_rfl) (fun _ _ _ h => h) (by rfl) (by assumption) (fun wS hSw => ?_) ?_
        · (try dsimp only at hSw); go_simp
        simp only [Act.put, List.setIfInBounds_toArray, List.set_cons_zero, List.set_cons_succ]
        refine wpAnyZ_take (i := 13) (oi := ⟨some 45, Op.fieldAddr 28 (Operand.tmp 44) 1, 0, _, _, none⟩) (oz := ⟨none, Op.store 24 (Operand.tmp 3) (Operand.tmp 64), 0, _, _, none⟩) (v := .pointer (some ⟨b, o + k * 2 + 1, none⟩)) rfl rfl (by kernel_rfl) (fun _ _ _ h => h) (by rfl) (by assumption) (fun wS hSw => ?_) ?_
        · (try dsimp only at hSw); go_simp
        simp only [Act.put, List.setIfInBounds_toArray, List.set_cons_zero, List.set_cons_succ]
        refine wpAnyZ_take (i := 14) (oi := ⟨some 46, Op.load 3 (Operand.tmp 45), 3, _, _, none⟩) (oz := ⟨none, Op.store 24 (Operand.tmp 3) (Operand.tmp 64), 0, _, _, none⟩) (v := .int .i64 q) rfl rfl (by kernel_rfl) (fun _ _ _ h => h) (by rfl) (by assumption) (fun wS hSw => ?_) ?_
        · (try dsimp only at hSw); go_simp
        simp only [Act.put, List.setIfInBounds_toArray, List.set_cons_zero, List.set_cons_succ]
        refine wpAnyZ_take (i := 15) (oi := ⟨some 47, Op.call { callee := Callee.builtin Builtin.min, args := #[Operand.tmp 41, Operand.tmp 46], argTypes := #[3, 3] }, 3, _, _, none⟩) (oz := ⟨none, Op.store 24 (Operand.tmp 3) (Operand.tmp 64), 0, _, _, none⟩) (v := .int .i64 B') rfl rfl (by kernel_rfl) (fun _ _ _ h => h) (by rfl) (by assumption) (fun wS hSw => ?_) ?_
        · (try dsimp only at hSw); go_simp
        simp only [Act.put, List.setIfInBounds_toArray, List.set_cons_zero, List.set_cons_succ]
        refine wpAnyZ_take (i := 16) (oi := ⟨some 48, Op.fieldAddr 24 (Operand.tmp 3) 2, 0, _, _, none⟩) (oz := ⟨none, Op.store 24 (Operand.tmp 3) (Operand.tmp 64), 0, _, _, none⟩) (v := .pointer (some ⟨R, 2, none⟩)) rfl rfl (by kernel_rfl) (fun _ _ _ h => h) (by rfl) (by assumption) (fun wS hSw => ?_) ?_
        · (try dsimp only at hSw); go_simp
        simp only [Act.put, List.setIfInBounds_toArray, List.set_cons_zero, List.set_cons_succ]
        refine wpAnyZ_take (i := 17) (oi := ⟨some 49, Op.load 3 (Operand.tmp 48), 3, _, _, none⟩) (oz := ⟨none, Op.store 24 (Operand.tmp 3) (Operand.tmp 64), 0, _, _, none⟩) (v := .int .i64 C) rfl rfl (by kernel_rfl) (fun _ _ _ h => h) (by rfl) (by assumption) (fun wS hSw => ?_) ?_
        · (try dsimp only at hSw); go_simp
        simp only [Act.put, List.setIfInBounds_toArray, List.set_cons_zero, List.set_cons_succ]
        refine wpAnyZ_take (i := 18) (oi := ⟨some 50, Op.move (Operand.tmp 0), 22, _, _, none⟩) (oz := ⟨none, Op.store 24 (Operand.tmp 3) (Operand.tmp 64), 0, _, _, none⟩) (v := .slice (some ⟨b, o, none⟩) ps.length cap) rfl rfl (by kernel_rfl) (fun _ _ _ h => h) (by rfl) (by assumption) (fun wS hSw => ?_) ?_
        · (try dsimp only at hSw); go_simp
        simp only [Act.put, List.setIfInBounds_toArray, List.set_cons_zero, List.set_cons_succ]
        refine wpAnyZ_take (i := 19) (oi := ⟨some 51, Op.move (Operand.tmp 4), 3, _, _, none⟩) (oz := ⟨none, Op.store 24 (Operand.tmp 3) (Operand.tmp 64), 0, _, _, none⟩) (v := .int .i64 k) rfl rfl (by kernel_rfl) (fun _ _ _ h => h) (by rfl) (by assumption) (fun wS hSw => ?_) ?_
        · (try dsimp only at hSw); go_simp
        simp only [Act.put, List.setIfInBounds_toArray, List.set_cons_zero, List.set_cons_succ]
        refine wpAnyZ_take (i := 20) (oi := ⟨some 52, Op.indexAddr 22 (Operand.tmp 50) (Operand.tmp 51), 0, _, _, none⟩) (oz := ⟨none, Op.store 24 (Operand.tmp 3) (Operand.tmp 64), 0, _, _, none⟩) (v := .pointer (some ⟨b, o + k * 2, none⟩)) rfl rfl (by kernel_rfl) (fun _ _ _ h => h) (by rfl) (by assumption) (fun wS hSw => ?_) ?_
        · (try dsimp only at hSw); go_simp
        simp only [Act.put, List.setIfInBounds_toArray, List.set_cons_zero, List.set_cons_succ]
        refine wpAnyZ_take (i := 21) (oi := ⟨some 53, Op.fieldAddr 28 (Operand.tmp 52) 0, 0, _, _, none⟩) (oz := ⟨none, Op.store 24 (Operand.tmp 3) (Operand.tmp 64), 0, _, _, none⟩) (v := .pointer (some ⟨b, o + k * 2, none⟩)) rfl rfl (by kernel_rfl) (fun _ _ _ h => h) (by rfl) (by assumption) (fun wS hSw => ?_) ?_
        · (try dsimp only at hSw); go_simp
        simp only [Act.put, List.setIfInBounds_toArray, List.set_cons_zero, List.set_cons_succ]
        refine wpAnyZ_take (i := 22) (oi := ⟨some 54, Op.load 3 (Operand.tmp 53), 3, _, _, none⟩) (oz := ⟨none, Op.store 24 (Operand.tmp 3) (Operand.tmp 64), 0, _, _, none⟩) (v := .int .i64 p) rfl rfl (by kernel_rfl) (fun _ _ _ h => h) (by rfl) (by assumption) (fun wS hSw => ?_) ?_
        · (try dsimp only at hSw); go_simp
        simp only [Act.put, List.setIfInBounds_toArray, List.set_cons_zero, List.set_cons_succ]
        refine wpAnyZ_take (i := 23) (oi := ⟨some 55, Op.call { callee := Callee.builtin Builtin.max, args := #[Operand.tmp 49, Operand.tmp 54], argTypes := #[3, 3] }, 3, _, _, none⟩) (oz := ⟨none, Op.store 24 (Operand.tmp 3) (Operand.tmp 64), 0, _, _, none⟩) (v := .int .i64 C') rfl rfl (by kernel_rfl) (fun _ _ _ h => h) (by rfl) (by assumption) (fun wS hSw => ?_) ?_
        · (try dsimp only at hSw); go_simp
        simp only [Act.put, List.setIfInBounds_toArray, List.set_cons_zero, List.set_cons_succ]
        refine wpAnyZ_take (i := 24) (oi := ⟨some 56, Op.fieldAddr 24 (Operand.tmp 3) 3, 0, _, _, none⟩) (oz := ⟨none, Op.store 24 (Operand.tmp 3) (Operand.tmp 64), 0, _, _, none⟩) (v := .pointer (some ⟨R, 3, none⟩)) rfl rfl (by kernel_rfl) (fun _ _ _ h => h) (by rfl) (by assumption) (fun wS hSw => ?_) ?_
        · (try dsimp only at hSw); go_simp
        simp only [Act.put, List.setIfInBounds_toArray, List.set_cons_zero, List.set_cons_succ]
        refine wpAnyZ_take (i := 25) (oi := ⟨some 57, Op.load 3 (Operand.tmp 56), 3, _, _, none⟩) (oz := ⟨none, Op.store 24 (Operand.tmp 3) (Operand.tmp 64), 0, _, _, none⟩) (v := .int .i64 D) rfl rfl (by kernel_rfl) (fun _ _ _ h => h) (by rfl) (by assumption) (fun wS hSw => ?_) ?_
        · (try dsimp only at hSw); go_simp
        simp only [Act.put, List.setIfInBounds_toArray, List.set_cons_zero, List.set_cons_succ]
        refine wpAnyZ_take (i := 26) (oi := ⟨some 58, Op.move (Operand.tmp 0), 22, _, _, none⟩) (oz := ⟨none, Op.store 24 (Operand.tmp 3) (Operand.tmp 64), 0, _, _, none⟩) (v := .slice (some ⟨b, o, none⟩) ps.length cap) rfl rfl (by kernel_rfl) (fun _ _ _ h => h) (by rfl) (by assumption) (fun wS hSw => ?_) ?_
        · (try dsimp only at hSw); go_simp
        simp only [Act.put, List.setIfInBounds_toArray, List.set_cons_zero, List.set_cons_succ]
        refine wpAnyZ_take (i := 27) (oi := ⟨some 59, Op.move (Operand.tmp 4), 3, _, _, none⟩) (oz := ⟨none, Op.store 24 (Operand.tmp 3) (Operand.tmp 64), 0, _, _, none⟩) (v := .int .i64 k) rfl rfl (by kernel_rfl) (fun _ _ _ h => h) (by rfl) (by assumption) (fun wS hSw => ?_) ?_
        · (try dsimp only at hSw); go_simp
        simp only [Act.put, List.setIfInBounds_toArray, List.set_cons_zero, List.set_cons_succ]
        refine wpAnyZ_take (i := 28) (oi := ⟨some 60, Op.indexAddr 22 (Operand.tmp 58) (Operand.tmp 59), 0, _, _, none⟩) (oz := ⟨none, Op.store 24 (Operand.tmp 3) (Operand.tmp 64), 0, _, _, none⟩) (v := .pointer (some ⟨b, o + k * 2, none⟩)) rfl rfl (by kernel_rfl) (fun _ _ _ h => h) (by rfl) (by assumption) (fun wS hSw => ?_) ?_
        · (try dsimp only at hSw); go_simp
        simp only [Act.put, List.setIfInBounds_toArray, List.set_cons_zero, List.set_cons_succ]
        refine wpAnyZ_take (i := 29) (oi := ⟨some 61, Op.fieldAddr 28 (Operand.tmp 60) 1, 0, _, _, none⟩) (oz := ⟨none, Op.store 24 (Operand.tmp 3) (Operand.tmp 64), 0, _, _, none⟩) (v := .pointer (some ⟨b, o + k * 2 + 1, none⟩)) rfl rfl (by kernel_rfl) (fun _ _ _ h => h) (by rfl) (by assumption) (fun wS hSw => ?_) ?_
        · (try dsimp only at hSw); go_simp
        simp only [Act.put, List.setIfInBounds_toArray, List.set_cons_zero, List.set_cons_succ]
        refine wpAnyZ_take (i := 30) (oi := ⟨some 62, Op.load 3 (Operand.tmp 61), 3, _, _, none⟩) (oz := ⟨none, Op.store 24 (Operand.tmp 3) (Operand.tmp 64), 0, _, _, none⟩) (v := .int .i64 q) rfl rfl (by kernel_rfl) (fun _ _ _ h => h) (by rfl) (by assumption) (fun wS hSw => ?_) ?_
        · (try dsimp only at hSw); go_simp
        simp only [Act.put, List.setIfInBounds_toArray, List.set_cons_zero, List.set_cons_succ]
        refine wpAnyZ_take (i := 31) (oi := ⟨some 63, Op.call { callee := Callee.builtin Builtin.max, args := #[Operand.tmp 57, Operand.tmp 62], argTypes := #[3, 3] }, 3, _, _, none⟩) (oz := ⟨none, Op.store 24 (Operand.tmp 3) (Operand.tmp 64), 0, _, _, none⟩) (v := .int .i64 D') rfl rfl (by kernel_rfl) (fun _ _ _ h => h) (by rfl) (by assumption) (fun wS hSw => ?_) ?_
        · (try dsimp only at hSw); go_simp
        simp only [Act.put, List.setIfInBounds_toArray, List.set_cons_zero, List.set_cons_succ]
        refine wpAnyZ_take (i := 32) (oi := ⟨some 64, Op.build 24 #[(0, Operand.tmp 39), (1, Operand.tmp 47), (2, Operand.tmp 55), (3, Operand.tmp 63)], 24, _, _, none⟩) (oz := ⟨none, Op.store 24 (Operand.tmp 3) (Operand.tmp 64), 0, _, _, none⟩) (v := .agg #[.int .i64 A', .int .i64 B', .int .i64 C', .int .i64 D']) rfl rfl (by kernel_rfl) (fun _ _ _ h => h) (by rfl) (by assumption) (fun wS hSw => ?_) ?_
        · (try dsimp only at hSw); go_simp
        simp only [Act.put, List.setIfInBounds_toArray, List.set_cons_zero, List.set_cons_succ]
        refine wpAnyZ_listed #[true, true, true, true, true, true, true, true, true, true, true, true, true, true, true, true, true, true, true, true, true, true, true, true, true, true, true, true, true, true, true, true, true, false] (by kernel_rfl) ?_
        refine wpAnyZ_step (o := ⟨none, Op.store 24 (Operand.tmp 3) (Operand.tmp 64), 0, _, _, none⟩) (by kernel_rfl) (by decide) rfl (fun K hK => ?_)
        have k0 := X0.fact (.head _) (i := 0) rfl
        have k1 := X0.fact (.head _) (i := 1) rfl
        have k2 := X0.fact (.head _) (i := 2) rfl
        have k3 := X0.fact (.head _) (i := 3) rfl
        have f0 := X0.free (.head _) (i := 0) rfl
        have f1 := X0.free (.head _) (i := 1) rfl
        have f2 := X0.free (.head _) (i := 2) rfl
        have f3 := X0.free (.head _) (i := 3) rfl
        go_simp
        have X1 : Has w [(R, [.int .i64 A', .int .i64 B', .int .i64 C', .int .i64 D']), (w.heap.size, [.int .i64 0, .int .i64 0, .int .i64 0, .int .i64 0])] (World.setCell (World.setCell (World.setCell (World.setCell A0 ⟨R, 0, none⟩ (.int .i64 A')) ⟨R, 1, none⟩ (.int .i64 B')) ⟨R, 2, none⟩ (.int .i64 C')) ⟨R, 3, none⟩ (.int .i64 D')) := ((((X0.set 0 (by simp) (.int .i64 A')).set 1 (by simp) (.int .i64 B')).set 2 (by simp) (.int .i64 C')).set 3 (by simp) (.int .i64 D'))
        generalize (World.setCell (World.setCell (World.setCell (World.setCell A0 ⟨R, 0, none⟩ (.int .i64 A')) ⟨R, 1, none⟩ (.int .i64 B')) ⟨R, 2, none⟩ (.int .i64 C')) ⟨R, 3, none⟩ (.int .i64 D')) = A1 at *
        clear k0 k1 k2 k3 f0 f1 f2 f3 X0 G0
        try clear hHeld
        refine hK.out _ _ ?_
        clear hK K
        try simp only [List.setIfInBounds_toArray, List.set_cons_zero, List.set_cons_succ]
        refine wpAnyH_listed #[true, true, true, true, true, true, true, true, true, true, true, true, true, true, true, true, true, true, true, true, true, true, true, true, true, true, true, true, true, true, true, true, true, true] (by kernel_rfl) ?_
        have hHeld := True.intro
        refine wpAnyH_done (by kernel_rfl) ?_ _
        clear hHeld
        refine Calm.normal ?_
        go_wp2_with fail
        go_roundw
        case rel => exact ⟨k + 1, by omega, by go_num, by rw [HN.out.1, HN.out.2.1, HN.out.2.2.1, HN.out.2.2.2]; exact X1⟩
        case measure => simp [intOf]; omega
      · obtain rfl : k = ps.length := by omega
        generalize lo Prod.fst ps ps.length = A at *
        generalize lo Prod.snd ps ps.length = B at *
        generalize hi Prod.fst ps ps.length = C at *
        generalize hi Prod.snd ps ps.length = D at *
        have k0 := G0.fact (.head _) (i := 0) rfl
        have d0 := G0.tail.fact (.head _) (i := 0) rfl
        have f0 := G0.tail.free (.head _) (i := 0) rfl
        have k1 := G0.fact (.head _) (i := 1) rfl
        have d1 := G0.tail.fact (.head _) (i := 1) rfl
        have f1 := G0.tail.free (.head _) (i := 1) rfl
        have k2 := G0.fact (.head _) (i := 2) rfl
        have d2 := G0.tail.fact (.head _) (i := 2) rfl
        have f2 := G0.tail.free (.head _) (i := 2) rfl
        have k3 := G0.fact (.head _) (i := 3) rfl
        have d3 := G0.tail.fact (.head _) (i := 3) rfl
        have f3 := G0.tail.free (.head _) (i := 3) rfl
        have X1 : Has w [(w.heap.size, [.int .i64 A, .int .i64 B, .int .i64 C, .int .i64 D]), (R, [.int .i64 A, .int .i64 B, .int .i64 C, .int .i64 D])] (World.setCell (World.setCell (World.setCell (World.setCell wr ⟨w.heap.size, 0, none⟩ (.int .i64 A)) ⟨w.heap.size, 1, none⟩ (.int .i64 B)) ⟨w.heap.size, 2, none⟩ (.int .i64 C)) ⟨w.heap.size, 3, none⟩ (.int .i64 D)) := ((((G0.swap.set 0 (by simp) (.int .i64 A)).set 1 (by simp) (.int .i64 B)).set 2 (by simp) (.int .i64 C)).set 3 (by simp) (.int .i64 D))
        go_wp2_with fail
        generalize (World.setCell (World.setCell (World.setCell (World.setCell wr ⟨w.heap.size, 0, none⟩ (.int .i64 A)) ⟨w.heap.size, 1, none⟩ (.int .i64 B)) ⟨w.heap.size, 2, none⟩ (.int .i64 C)) ⟨w.heap.size, 3, none⟩ (.int .i64 D)) = w4 at *
        clear d0 d1 d2 d3
        obtain ⟨d0, d1, d2, d3⟩ : w4.cell? ⟨w.heap.size, 0, none⟩ = some (.int .i64 A) ∧ w4.cell? ⟨w.heap.size, 1, none⟩ = some (.int .i64 B) ∧ w4.cell? ⟨w.heap.size, 2, none⟩ = some (.int .i64 C) ∧ w4.cell? ⟨w.heap.size, 3, none⟩ = some (.int .i64 D) := ⟨X1.fact (.head _) (i := 0) rfl, X1.fact (.head _) (i := 1) rfl, X1.fact (.head _) (i := 2) rfl, X1.fact (.head _) (i := 3) rfl⟩
        exact bodyPost_ret (v := .agg #[.int .i64 A, .int .i64 B, .int .i64 C, .int .i64 D]) (by simp [results, Try.results25, go_sem, d0, d1, d2, d3]) rfl ⟨by rw [hbx.out], X1.low⟩

end Go.Proofs.Ytoehojopoajcaaa
