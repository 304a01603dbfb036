/- The law of more ways. -/
import Derived.Test.YtoaldbjcpfkcjaaGreatqXg
import Derived.Test.YtoaldbjcpfkcjaaGreatqSw
namespace Go.Proofs.YtoaldbjcpfkcjaaGreat
open Go.RowKit Go.Lib

theorem grpW_nil : (grpW []).length = 0 := by
  unfold grpW
  rw [grp_length]
  rfl
theorem grpW_le (ws : List Wy) : (grpW ws).length ≤ ws.length := by
  unfold grpW
  rw [grp_length]
  unfold reps
  exact Nat.le_trans (List.length_filter_le _ _) (by rw [List.length_range]; exact Nat.le_refl _)
set_option linter.unusedSimpArgs false in
set_option maxRecDepth 100000 in
set_option maxHeartbeats 4000000 in
theorem mores_any (v : Value) (xs : List Int) (w : World) (R : RowN w v xs) :
    Calls Tryz.prog 6 #[v] w fun e w' => e = .returned (.bool true) ∧ Below w.heap.size w w' := by
  have HR := Lib.hid R
  obtain ⟨va, vc, rfl, -⟩ := R
  go_enter Tryz.func6, Tryz.ntmps6
  go_wp2_with fail
  refine (sane_any _).mono ?_
  rintro e w1 ⟨rfl, B0⟩
  go_wp2_with fail
  refine (made_any _ xs _ (HR.out.later B0)).mono ?_
  rintro e w2 ⟨u, ws, rfl, RW, HM, B1⟩
  replace HM := Lib.hid HM
  have HB := Lib.hid (B0.trans (B1.mono B0.size))
  clear B0 B1
  obtain ⟨wa, n, wc, rfl, hn, hc1, hc2, RW⟩ := RW.form
  by_cases h0 : n = 0
  · subst h0
    obtain rfl : ws = [] := List.eq_nil_of_length_eq_zero hn
    go_wp2_with fail
    refine (groups_any HM.out.wk _ _ RW (by simp)).mono ?_
    rintro e w3 ⟨g, rfl, G, D⟩
    obtain ⟨ga, gn, gc, rfl, hgn, -, -, -⟩ := G.row.form
    rw [grpW_nil] at hgn
    subst hgn
    have BB := HB.out.trans (D.mono HB.out.size)
    clear G D RW
    go_wp2_with fail
    go_ret
    exact ⟨rfl, BB⟩
  · have z0 : (n == 0) = false := by rw [beq_eq_false_iff_ne]; exact h0
    have z1 : ((n : Int) == 0) = false := by rw [beq_eq_false_iff_ne]; omega
    obtain ⟨J, hK⟩ : ∃ J, n = J + 1 := ⟨n - 1, by omega⟩
    have HK := Lib.hid hK
    have hsub : IntKind.i64.wrap ((n : Int) - 1) = (J : Int) := by rw [IntKind.wrap_i64]; omega
    have hsub2 : (n : Int) - 1 = (J : Int) := by omega
    have HN := Lib.hid hn
    have hKn : (J : Int) ≤ n := by omega
    have hKn2 : J ≤ n := by omega
    have hKc : (J : Int) ≤ wc := by omega
    have hKc2 : J ≤ wc := by omega
    have hK0 : (0 : Int) ≤ J := by omega
    have hKw : IntKind.i64.wrap (J : Int) = (J : Int) := by rw [IntKind.wrap_i64]; omega
    clear hn hK h0
    go_upto_region 5 with fail
    have RT : RowW w2.drew (.slice wa J wc) (ws.take J) := (RW.take J (by rw [HN.out]; omega)).later ((Below.refl _ w2).drew)
    refine wp_region_held_drew (S := fun _ => True) (by kernel_rfl) trivial (fun hHeld => ?_)
    have RW1 := RW.later ((Below.refl _ w2).drew)
    have B1 := HB.out.drew
    generalize w2.drew = w3 at *
    refine wpAnyT_begin [0, 2, 3, 4, 5] (by kernel_rfl) (by kernel_rfl) ?_
    refine wpAnyT_take (oi := ⟨some 22, Op.move (Operand.tmp 4), 23, _, _, none⟩) (v := .slice wa n wc) rfl (fun _ _ _ h => h) (by rfl) (by assumption) (fun wS hSw => ?_) ?_
    · (try dsimp only at hSw); go_simp
    simp only [Act.put, List.setIfInBounds_toArray, List.set_cons_zero, List.set_cons_succ]
    refine wpAnyT_take (oi := ⟨some 24, Op.move (Operand.tmp 4), 23, _, _, none⟩) (v := .slice wa n wc) rfl (fun _ _ _ h => h) (by rfl) (by assumption) (fun wS hSw => ?_) ?_
    · (try dsimp only at hSw); go_simp
    simp only [Act.put, List.setIfInBounds_toArray, List.set_cons_zero, List.set_cons_succ]
    refine wpAnyT_take (oi := ⟨some 25, Op.move (Operand.tmp 4), 23, _, _, none⟩) (v := .slice wa n wc) rfl (fun _ _ _ h => h) (by rfl) (by assumption) (fun wS hSw => ?_) ?_
    · (try dsimp only at hSw); go_simp
    simp only [Act.put, List.setIfInBounds_toArray, List.set_cons_zero, List.set_cons_succ]
    refine wpAnyT_take (oi := ⟨some 26, Op.call { callee := Callee.builtin Builtin.len, args := #[Operand.tmp 25], argTypes := #[23] }, 3, _, _, none⟩) (v := .int .i64 n) rfl (fun _ _ _ h => h) (by rfl) (by assumption) (fun wS hSw => ?_) ?_
    · (try dsimp only at hSw); go_simp
    simp only [Act.put, List.setIfInBounds_toArray, List.set_cons_zero, List.set_cons_succ]
    refine wpAnyT_take (oi := ⟨some 27, Op.binOp BinOp.sub 3 (Operand.tmp 26) (Operand.const (Value.int IntKind.i64 1)) 3, 3, _, _, none⟩) (v := .int .i64 J) rfl (fun _ _ _ h => h) (by rfl) (by assumption) (fun wS hSw => ?_) ?_
    · (try dsimp only at hSw); go_simp
    simp only [Act.put, List.setIfInBounds_toArray, List.set_cons_zero, List.set_cons_succ]
    refine wpAnyT_end ?_
    refine wpAnyH_listed #[true, false, true, true, true, true, false, false, false, false] (by kernel_rfl) ?_
    refine wpAnyT_begin [6] (by kernel_rfl) (by kernel_rfl) ?_
    refine wpAnyT_take (oi := ⟨some 28, Op.slice 23 (Operand.tmp 24) none (some (Operand.tmp 27)) none, 23, _, _, none⟩) (v := .slice wa J wc) rfl (fun _ _ _ h => h) (by rfl) (by assumption) (fun wS hSw => ?_) ?_
    · (try dsimp only at hSw); go_simp
    simp only [Act.put, List.setIfInBounds_toArray, List.set_cons_zero, List.set_cons_succ]
    refine wpAnyT_end ?_
    refine wpAnyH_listed #[true, false, true, true, true, true, true, false, false, false] (by kernel_rfl) ?_
    refine wpAnyH_ready (rs := [1]) (by kernel_rfl) (by simp) ?_
    refine AllReadyH.cons (o := ⟨some 23, Op.call { callee := Callee.value (Operand.func 16), args := #[Operand.tmp 22], argTypes := #[23] }, 34, _, _, none⟩) rfl (fun K hK => ?_) AllReadyH.nil
    go_simp
    go_at_call 16
    refine (groups_any HM.out.wk _ _ RW1 (by have := HM.out.len; omega)).mono ?_
    rintro e w4 ⟨g1, rfl, G1, D1⟩
    go_wp2_with fail
    clear hHeld
    refine hK.out _ _ (trivial) (fun hHeld => ?_)
    clear hK K
    try simp only [List.setIfInBounds_toArray, List.set_cons_zero, List.set_cons_succ]
    refine wpAnyH_listed #[true, true, true, true, true, true, true, false, false, false] (by kernel_rfl) ?_
    refine wpAnyH_ready (rs := [7]) (by kernel_rfl) (by simp) ?_
    refine AllReadyH.cons (o := ⟨some 29, Op.call { callee := Callee.value (Operand.func 16), args := #[Operand.tmp 28], argTypes := #[23] }, 34, _, _, none⟩) rfl (fun K hK => ?_) AllReadyH.nil
    go_simp
    go_at_call 16
    refine (groups_any (HM.out.take J).wk _ _ (RT.later D1) (by have := (HM.out.take J).len; omega)).mono ?_
    rintro e w5 ⟨g2, rfl, G2, D2⟩
    go_wp2_with fail
    clear hHeld
    refine hK.out _ _ (trivial) (fun hHeld => ?_)
    clear hK K
    try simp only [List.setIfInBounds_toArray, List.set_cons_zero, List.set_cons_succ]
    refine wpAnyH_listed #[true, true, true, true, true, true, true, true, false, false] (by kernel_rfl) ?_
    refine wpAnyT_begin [8, 9] (by kernel_rfl) (by kernel_rfl) ?_
    refine wpAnyT_take (oi := ⟨some 5, Op.assign (Operand.tmp 23), 34, _, _, none⟩) (v := g1) rfl (fun _ _ _ h => h) (by rfl) (by assumption) (fun wS hSw => ?_) ?_
    · (try dsimp only at hSw); go_simp
    simp only [Act.put, List.setIfInBounds_toArray, List.set_cons_zero, List.set_cons_succ]
    refine wpAnyT_take (oi := ⟨some 6, Op.assign (Operand.tmp 29), 34, _, _, none⟩) (v := g2) rfl (fun _ _ _ h => h) (by rfl) (by assumption) (fun wS hSw => ?_) ?_
    · (try dsimp only at hSw); go_simp
    simp only [Act.put, List.setIfInBounds_toArray, List.set_cons_zero, List.set_cons_succ]
    refine wpAnyT_end ?_
    refine wpAnyH_listed #[true, true, true, true, true, true, true, true, true, true] (by kernel_rfl) ?_
    refine wpAnyH_done (by kernel_rfl) ?_ _
    have HG1 := G1.row.later D2
    have HG2 := G2.row
    have BB := HB.out.drew
    have RW3 := (RW1.later D1).later D2
    replace B1 := Lib.hid ((B1.trans (D1.mono B1.size)).trans (D2.mono (Nat.le_trans B1.size D1.size)))
    clear BB G1 G2 D1 D2 RT RW RW1 hHeld
    obtain ⟨ga, p, gc, rfl, hp, hp1, hp2, HG1⟩ := HG1.form
    obtain ⟨fa, q, fc, rfl, hq, hq1, hq2, HG2⟩ := HG2.form
    have HL := Lib.hid (show p ≤ q + 1 by rw [← hp, ← hq]; exact more_len (by rw [HN.out, HK.out]))
    have HP := Lib.hid hp
    have HQ := Lib.hid hq
    have HR1 := Lib.hid HG1
    have HR2 := Lib.hid HG2
    have HRW := Lib.hid RW3
    clear hp hq HG1 HG2 RW3
    go_wp2_with fail
    go_loopw [7] (fun i wr => ∃ k : Nat, k ≤ J ∧ i = .int .i64 k ∧ Grows w5 wr) (fun i _ => J - (RowKit.intOf i).toNat)
    case atStart => exact ⟨0, Nat.zero_le _, rfl, Below.refl _ _⟩
    case round =>
      obtain ⟨k, hk, rfl, hG⟩ := hrel
      have kw : IntKind.i64.wrap ((k : Int) + 1) = (k : Int) + 1 := by rw [IntKind.wrap_i64]; omega
      by_cases hlt : k < J
      · have b1 : (k : Int) + 1 < n := by have := HK.out; omega
        go_wp2_with fail
        go_loopw [8] (fun i wy => ∃ l : Nat, l ≤ k ∧ i = .int .i64 l ∧ Grows w5 wy) (fun i _ => k - (RowKit.intOf i).toNat)
        case atStart => exact ⟨0, Nat.zero_le _, rfl, hG⟩
        case round =>
          obtain ⟨l, hl, rfl, hG2⟩ := hrel
          by_cases hlk : l < k
          · have b2 : (l : Int) < k := by omega
            have hRW := HRW.out.later hG2
            obtain ⟨bb, oo, rfl, hcell⟩ := hRW.spot (by rw [HN.out]; omega)
            obtain ⟨t1, ht1⟩ : ∃ t, ws[k]? = some t := ⟨_, List.getElem?_eq_getElem (by rw [HN.out]; omega)⟩
            obtain ⟨t2, ht2⟩ : ∃ t, ws[l]? = some t := ⟨_, List.getElem?_eq_getElem (by rw [HN.out]; omega)⟩
            obtain ⟨-, -, c1, -⟩ := hcell k t1 ht1
            obtain ⟨-, -, c2, -⟩ := hcell l t2 ht2
            rw [HM.out.id k t1 ht1] at c1
            rw [HM.out.id l t2 ht2] at c2
            clear hcell ht1 ht2 hRW
            have b3 : (k : Int) < n := by omega
            have b4 : (l : Int) < n := by omega
            have b5 : (0 : Int) ≤ k := by omega
            have b6 : (0 : Int) ≤ l := by omega
            obtain ⟨fa1, hf1⟩ : ∃ f, findP (grpW (ws.take J)) (k + 1) = f := ⟨_, rfl⟩
            obtain ⟨fa2, hf2⟩ : ∃ f, findP (grpW (ws.take J)) (l + 1) = f := ⟨_, rfl⟩
            obtain ⟨fa3, hf3⟩ : ∃ f, findP (grpW ws) (k + 1) = f := ⟨_, rfl⟩
            obtain ⟨fa4, hf4⟩ : ∃ f, findP (grpW ws) (l + 1) = f := ⟨_, rfl⟩
            have HT := HM.out.take J
            have hTl : (ws.take J).length = J := by rw [List.length_take, HN.out]; omega
            have K1 := Lib.hid (fun (d : Nat) => show Calls Tryz.prog 25 #[.slice fa q fc, .int .i64 ((k : Int) + 1)] (wr.drewN d) (fun e w' => e = .returned (.int .i64 fa1) ∧ w' = wr.drewN d) from (made_find _ HT (by omega) fa1 hf1 _ ((HR2.out.later hG2).later (below_drewN (Below.refl _ _) d))).mono fun _ _ ⟨h1, h2⟩ => ⟨h1, h2.symm⟩)
            have K2 := Lib.hid (fun (d : Nat) => show Calls Tryz.prog 25 #[.slice fa q fc, .int .i64 ((l : Int) + 1)] (wr.drewN d) (fun e w' => e = .returned (.int .i64 fa2) ∧ w' = wr.drewN d) from (made_find _ HT (by omega) fa2 hf2 _ ((HR2.out.later hG2).later (below_drewN (Below.refl _ _) d))).mono fun _ _ ⟨h1, h2⟩ => ⟨h1, h2.symm⟩)
            have K3 := Lib.hid (fun (d : Nat) => show Calls Tryz.prog 25 #[.slice ga p gc, .int .i64 ((k : Int) + 1)] (wr.drewN d) (fun e w' => e = .returned (.int .i64 fa3) ∧ w' = wr.drewN d) from (made_find _ HM.out (by rw [HN.out]; omega) fa3 hf3 _ ((HR1.out.later hG2).later (below_drewN (Below.refl _ _) d))).mono fun _ _ ⟨h1, h2⟩ => ⟨h1, h2.symm⟩)
            have K4 := Lib.hid (fun (d : Nat) => show Calls Tryz.prog 25 #[.slice ga p gc, .int .i64 ((l : Int) + 1)] (wr.drewN d) (fun e w' => e = .returned (.int .i64 fa4) ∧ w' = wr.drewN d) from (made_find _ HM.out (by rw [HN.out]; omega) fa4 hf4 _ ((HR1.out.later hG2).later (below_drewN (Below.refl _ _) d))).mono fun _ _ ⟨h1, h2⟩ => ⟨h1, h2.symm⟩)
            have HS := Lib.hid (show fa1 = fa2 → fa3 = fa4 by rw [← hf1, ← hf2, ← hf3, ← hf4]; exact more_same HM.out (by rw [HN.out, HK.out]) (by omega) (by omega))
            have lw : IntKind.i64.wrap ((l : Int) + 1) = (l : Int) + 1 := by rw [IntKind.wrap_i64]; omega
            clear hf1 hf2 hf3 hf4 HT hTl
            go_upto_region 12 with fail
            by_cases h12 : fa1 = fa2
            · have z3 : (fa1 == fa2) = true := by rw [h12]; simp
              have z4 : (fa3 != fa4) = false := by rw [HS.out h12]; simp
              clear h12
              go_quiet ((first | (go_at_call 25; with_reducible exact Calls.quiet_of_same (K1.out _)) | (go_at_call 25; with_reducible exact Calls.quiet_of_same (K2.out _)) | (go_at_call 25; with_reducible exact Calls.quiet_of_same (K3.out _)) | (go_at_call 25; with_reducible exact Calls.quiet_of_same (K4.out _))))
              have hG3 := Grows.then hG2 (below_drewN (Below.refl _ _) nq)
              generalize wr.drewN nq = wz at *
              clear K1 K2 K3 K4 c1 c2 hG2
              go_wp2_with fail
              go_roundw
              case rel => exact ⟨l + 1, by omega, by go_num, hG3⟩
              case measure => simp [RowKit.intOf]; omega
            · have z3 : (fa1 == fa2) = false := by rw [beq_eq_false_iff_ne]; exact h12
              clear h12
              go_quiet ((first | (go_at_call 25; with_reducible exact Calls.quiet_of_same (K1.out _)) | (go_at_call 25; with_reducible exact Calls.quiet_of_same (K2.out _)) | (go_at_call 25; with_reducible exact Calls.quiet_of_same (K3.out _)) | (go_at_call 25; with_reducible exact Calls.quiet_of_same (K4.out _))))
              have hG3 := Grows.then hG2 (below_drewN (Below.refl _ _) nq)
              generalize wr.drewN nq = wz at *
              clear K1 K2 K3 K4 c1 c2 hG2
              go_wp2_with fail
              go_roundw
              case rel => exact ⟨l + 1, by omega, by go_num, hG3⟩
              case measure => simp [RowKit.intOf]; omega
          · obtain rfl : l = k := by omega
            go_wp2_with fail
            go_roundw
            case rel => exact ⟨l + 1, by omega, by go_num, hG2⟩
            case measure => simp [RowKit.intOf]; omega
      · obtain rfl : k = J := by omega
        have b1 : ¬ (k : Int) + 1 < n := by have := HK.out; omega
        have b3 : decide ((k : Int) + 1 < n) = false := decide_eq_false b1
        have b4 : (p : Int) ≤ (q : Int) + 1 := by have := HL.out; omega
        have b5 : IntKind.i64.wrap ((q : Int) + 1) = (q : Int) + 1 := by rw [IntKind.wrap_i64]; have h1 := HQ.out; have h2 := (HM.out.take k).len; have h3 := grpW_le (ws.take k); omega
        have BZ := B1.out.trans (hG.mono B1.out.size)
        go_wp2_with fail
        go_ret
        exact ⟨rfl, BZ⟩

end Go.Proofs.YtoaldbjcpfkcjaaGreat
