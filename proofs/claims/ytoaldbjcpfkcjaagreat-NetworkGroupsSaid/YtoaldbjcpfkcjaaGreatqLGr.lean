/- The law of groups. -/
import Derived.Test.YtoaldbjcpfkcjaaGreatqRb
import Derived.Test.YtoaldbjcpfkcjaaGreatqXg
import Derived.Test.YtoaldbjcpfkcjaaGreatqSw
namespace Go.Proofs.YtoaldbjcpfkcjaaGreat
open Go.RowKit Go.Lib

set_option linter.unusedSimpArgs false in
set_option maxRecDepth 100000 in
set_option maxHeartbeats 4000000 in
theorem groupsl_any (v : Value) (xs : List Int) (w : World) (R : RowN w v xs) :
    Calls Tryz.prog 5 #[v] w fun e w' => e = .returned (.bool true) ∧ Below w.heap.size w w' := by
  have HR := Lib.hid R
  obtain ⟨va, vc, rfl, -⟩ := R
  go_enter Tryz.func5, Tryz.ntmps5
  go_wp2_with fail
  refine (sane_any _).mono ?_
  rintro e w1 ⟨rfl, B0⟩
  go_wp2_with fail
  refine (made_any _ xs _ (HR.out.later B0)).mono ?_
  rintro e w2 ⟨u, ws, rfl, RW, HM, B1⟩
  replace HM := Lib.hid HM
  have HB := B0.trans (B1.mono B0.size)
  clear B0 B1
  obtain ⟨wa, n, wc, rfl, hn, hc1, hc2, RW⟩ := RW.form
  have HN := Lib.hid hn
  have h6 : n ≤ 6 := by have := HM.out.len; omega
  clear hn
  go_wp2_with fail
  refine (groups_any HM.out.wk _ _ RW (by have := HM.out.len; omega)).mono ?_
  rintro e w4 ⟨g1, rfl, G1, D1⟩
  have RW4 := RW.later D1
  replace HB := Lib.hid (HB.trans (D1.mono HB.size))
  obtain ⟨ga, gn, gc, rfl, hgn, hg1, hg2, RG⟩ := G1.row.form
  have HG := Lib.hid RG
  have HW := Lib.hid RW4
  clear G1 D1 RW RW4 RG hgn
  go_wp2_with fail
  go_loopw [6] (fun r wr => ∃ i : Nat, i ≤ n ∧ r = .int .i64 i ∧ Below w4.heap.size w4 wr) (fun r _ => n - (RowKit.intOf r).toNat)
  case atStart => exact ⟨0, Nat.zero_le _, rfl, Below.refl _ _⟩
  case round =>
    obtain ⟨i, hi, rfl, hG⟩ := hrel
    by_cases hin : i < n
    · have b1 : (i : Int) < n := by omega
      have b2 : (0 : Int) ≤ i := by omega
      obtain ⟨bb, oo, rfl, hcell⟩ := HW.out.spot (by rw [HN.out]; omega)
      obtain ⟨ti, hti⟩ : ∃ t, ws[i]? = some t := ⟨_, List.getElem?_eq_getElem (by rw [HN.out]; omega)⟩
      obtain ⟨ui, ri, ai⟩ := hcell i ti hti
      have c0 := (Below.cell hG (World.block_lt_of_cell? w4 _ ai.1)).trans ai.1
      have HIi := Lib.hid (HM.out.id i ti hti)
      have HTI := Lib.hid hti
      have RI := Lib.hid ri
      have HAI := Lib.hid ai
      have HCELL := Lib.hid hcell
      obtain ⟨fi, hfi⟩ : ∃ z, findP (grpW ws) ((i : Int) + 1) = z := ⟨_, rfl⟩
      have b3 : 0 ≤ fi := by rw [← hfi, ← HM.out.ids (by rw [HN.out]; omega)]; exact HM.out.find (by rw [HN.out]; omega)
      have b4 : decide (fi < 0) = false := decide_eq_false (by omega)
      have HFi := Lib.hid hfi
      clear hti ri ai hcell hfi
      rw [HIi.out] at c0
      go_wp2_with fail
      refine (made_find _ HM.out (i := i) (by rw [HN.out]; omega) fi HFi.out _ (HG.out.later hG)).mono ?_
      rintro e wq ⟨rfl, hwq⟩
      subst hwq
      clear c0
      go_wp2_with fail
      go_loopw [7] (fun r wy => ∃ k : Nat, k ≤ n ∧ r = .int .i64 k ∧ Below w4.heap.size w4 wy) (fun r _ => n - (RowKit.intOf r).toNat)
      case atStart => exact ⟨0, Nat.zero_le _, rfl, hG⟩
      case round =>
        clear hG
        obtain ⟨k, hk, rfl, hG2⟩ := hrel
        by_cases hkn : k < n
        · have b5 : (k : Int) < n := by omega
          have b6 : (0 : Int) ≤ k := by omega
          obtain ⟨tk, htk⟩ : ∃ t, ws[k]? = some t := ⟨_, List.getElem?_eq_getElem (by rw [HN.out]; omega)⟩
          obtain ⟨uk, rk, ak⟩ := HCELL.out k tk htk
          have RK := Lib.hid rk
          have HAK := Lib.hid ak
          have HIk := Lib.hid (HM.out.id k tk htk)
          obtain ⟨jb, hjb⟩ : ∃ jb, joinP ti tk = jb := ⟨_, rfl⟩
          have HJ := Lib.hid hjb
          have HJ2 := Lib.hid (show joinP tk ti = jb by rw [joinP_comm]; exact hjb)
          have HFk := Lib.hid (show jb = true → findP (grpW ws) ((k : Int) + 1) = fi by
            intro h
            rw [← HFi.out, ← HM.out.ids (by rw [HN.out]; omega), ← HM.out.ids (i := i) (by rw [HN.out]; omega)]
            refine (HM.out.same (by rw [HN.out]; omega) (by rw [HN.out]; omega)).2 (CC_conn.2 (Conn.one ?_))
            rw [JJ_some htk HTI.out, joinP_comm, hjb, h])
          have kw : IntKind.i64.wrap ((k : Int) + 1) = (k : Int) + 1 := by rw [IntKind.wrap_i64]; omega
          clear htk rk ak hjb
          cases jb
          · clear HFk
            have HS2 := Lib.hid (show ∀ w', Below w4.heap.size w4 w' → (w'.cell? ⟨bb, oo + i * 8, none⟩ = some (.int .i64 ti.id) ∧ w'.cell? ⟨bb, oo + i * 8 + 1, none⟩ = some (ui) ∧ w'.cell? ⟨bb, oo + i * 8 + 2, none⟩ = some (.int .i64 ti.lv) ∧ w'.cell? ⟨bb, oo + i * 8 + 3, none⟩ = some (.string ti.cl) ∧ w'.cell? ⟨bb, oo + i * 8 + 4, none⟩ = some (.string ti.nm) ∧ w'.cell? ⟨bb, oo + i * 8 + 5, none⟩ = some (.bool ti.st) ∧ w'.cell? ⟨bb, oo + i * 8 + 6, none⟩ = some (.int .i64 ti.wt) ∧ w'.cell? ⟨bb, oo + i * 8 + 7, none⟩ = some (.int .i64 ti.ds) ∧ w'.cell? ⟨bb, oo + k * 8, none⟩ = some (.int .i64 tk.id) ∧ w'.cell? ⟨bb, oo + k * 8 + 1, none⟩ = some (uk) ∧ w'.cell? ⟨bb, oo + k * 8 + 2, none⟩ = some (.int .i64 tk.lv) ∧ w'.cell? ⟨bb, oo + k * 8 + 3, none⟩ = some (.string tk.cl) ∧ w'.cell? ⟨bb, oo + k * 8 + 4, none⟩ = some (.string tk.nm) ∧ w'.cell? ⟨bb, oo + k * 8 + 5, none⟩ = some (.bool tk.st) ∧ w'.cell? ⟨bb, oo + k * 8 + 6, none⟩ = some (.int .i64 tk.wt) ∧ w'.cell? ⟨bb, oo + k * 8 + 7, none⟩ = some (.int .i64 tk.ds)) ∧ Below w4.heap.size w4 w' from fun w' h => ⟨⟨(Below.cell h (World.block_lt_of_cell? w4 _ HAI.out.1)).trans HAI.out.1, (Below.cell h (World.block_lt_of_cell? w4 _ HAI.out.2.1)).trans HAI.out.2.1, (Below.cell h (World.block_lt_of_cell? w4 _ HAI.out.2.2.1)).trans HAI.out.2.2.1, (Below.cell h (World.block_lt_of_cell? w4 _ HAI.out.2.2.2.1)).trans HAI.out.2.2.2.1, (Below.cell h (World.block_lt_of_cell? w4 _ HAI.out.2.2.2.2.1)).trans HAI.out.2.2.2.2.1, (Below.cell h (World.block_lt_of_cell? w4 _ HAI.out.2.2.2.2.2.1)).trans HAI.out.2.2.2.2.2.1, (Below.cell h (World.block_lt_of_cell? w4 _ HAI.out.2.2.2.2.2.2.1)).trans HAI.out.2.2.2.2.2.2.1, (Below.cell h (World.block_lt_of_cell? w4 _ HAI.out.2.2.2.2.2.2.2)).trans HAI.out.2.2.2.2.2.2.2, (Below.cell h (World.block_lt_of_cell? w4 _ HAK.out.1)).trans HAK.out.1, (Below.cell h (World.block_lt_of_cell? w4 _ HAK.out.2.1)).trans HAK.out.2.1, (Below.cell h (World.block_lt_of_cell? w4 _ HAK.out.2.2.1)).trans HAK.out.2.2.1, (Below.cell h (World.block_lt_of_cell? w4 _ HAK.out.2.2.2.1)).trans HAK.out.2.2.2.1, (Below.cell h (World.block_lt_of_cell? w4 _ HAK.out.2.2.2.2.1)).trans HAK.out.2.2.2.2.1, (Below.cell h (World.block_lt_of_cell? w4 _ HAK.out.2.2.2.2.2.1)).trans HAK.out.2.2.2.2.2.1, (Below.cell h (World.block_lt_of_cell? w4 _ HAK.out.2.2.2.2.2.2.1)).trans HAK.out.2.2.2.2.2.2.1, (Below.cell h (World.block_lt_of_cell? w4 _ HAK.out.2.2.2.2.2.2.2)).trans HAK.out.2.2.2.2.2.2.2⟩, h⟩)
            go_upto_region 12 with fail
            have X0 := hG2.drew
            refine wp_region_held_drew (S := (fun w' => (w'.cell? ⟨bb, oo + i * 8, none⟩ = some (.int .i64 ti.id) ∧ w'.cell? ⟨bb, oo + i * 8 + 1, none⟩ = some (ui) ∧ w'.cell? ⟨bb, oo + i * 8 + 2, none⟩ = some (.int .i64 ti.lv) ∧ w'.cell? ⟨bb, oo + i * 8 + 3, none⟩ = some (.string ti.cl) ∧ w'.cell? ⟨bb, oo + i * 8 + 4, none⟩ = some (.string ti.nm) ∧ w'.cell? ⟨bb, oo + i * 8 + 5, none⟩ = some (.bool ti.st) ∧ w'.cell? ⟨bb, oo + i * 8 + 6, none⟩ = some (.int .i64 ti.wt) ∧ w'.cell? ⟨bb, oo + i * 8 + 7, none⟩ = some (.int .i64 ti.ds) ∧ w'.cell? ⟨bb, oo + k * 8, none⟩ = some (.int .i64 tk.id) ∧ w'.cell? ⟨bb, oo + k * 8 + 1, none⟩ = some (uk) ∧ w'.cell? ⟨bb, oo + k * 8 + 2, none⟩ = some (.int .i64 tk.lv) ∧ w'.cell? ⟨bb, oo + k * 8 + 3, none⟩ = some (.string tk.cl) ∧ w'.cell? ⟨bb, oo + k * 8 + 4, none⟩ = some (.string tk.nm) ∧ w'.cell? ⟨bb, oo + k * 8 + 5, none⟩ = some (.bool tk.st) ∧ w'.cell? ⟨bb, oo + k * 8 + 6, none⟩ = some (.int .i64 tk.wt) ∧ w'.cell? ⟨bb, oo + k * 8 + 7, none⟩ = some (.int .i64 tk.ds)) ∧ Below w4.heap.size w4 w')) (by kernel_rfl) (HS2.out _ X0) (fun hHeld => ?_)
            generalize wr.drew = w5 at *
            clear hG2
            refine wpAnyT_begin [0, 1, 2, 3] (by kernel_rfl) (by kernel_rfl) ?_
            refine wpAnyT_take (oi := ⟨some 33, Op.move (Operand.tmp 4), 23, _, _, none⟩) (v := .slice (some ⟨bb, oo, none⟩) n wc) rfl (fun _ _ _ h => h) (by rfl) (by assumption) (fun wS hSw => ?_) ?_
            · (try dsimp only at hSw); go_simp
            simp only [Act.put, List.setIfInBounds_toArray, List.set_cons_zero, List.set_cons_succ]
            refine wpAnyT_take (oi := ⟨some 34, Op.move (Operand.tmp 6), 3, _, _, none⟩) (v := .int .i64 i) rfl (fun _ _ _ h => h) (by rfl) (by assumption) (fun wS hSw => ?_) ?_
            · (try dsimp only at hSw); go_simp
            simp only [Act.put, List.setIfInBounds_toArray, List.set_cons_zero, List.set_cons_succ]
            refine wpAnyT_take (oi := ⟨some 35, Op.indexAddr 23 (Operand.tmp 33) (Operand.tmp 34), 0, _, _, none⟩) (v := .pointer (some ⟨bb, oo + i * 8, none⟩)) rfl (fun _ _ _ h => h) (by rfl) (by assumption) (fun wS hSw => ?_) ?_
            · (try dsimp only at hSw); go_simp
            simp only [Act.put, List.setIfInBounds_toArray, List.set_cons_zero, List.set_cons_succ]
            refine wpAnyT_take (oi := ⟨some 36, Op.load 44 (Operand.tmp 35), 44, _, _, none⟩) (v := .agg #[.int .i64 ti.id, ui, .int .i64 ti.lv, .string ti.cl, .string ti.nm, .bool ti.st, .int .i64 ti.wt, .int .i64 ti.ds]) rfl (fun _ _ _ h => h) (by rfl) (by assumption) (fun wS hSw => ?_) ?_
            · (try dsimp only at hSw); go_simp
            simp only [Act.put, List.setIfInBounds_toArray, List.set_cons_zero, List.set_cons_succ]
            refine wpAnyT_end ?_
            refine wpAnyH_listed #[true, true, true, true, false, false, false, false, false, false, false, false, false, false, false, false, false, false, false, false, false, false, false, false, false, false, false, false, false, false, false, false, false, false, false, false, false, false, false, false, false, false, false, false, false, false, false] (by kernel_rfl) ?_
            refine wpAnyT_begin [4, 5, 6, 7] (by kernel_rfl) (by kernel_rfl) ?_
            refine wpAnyT_take (oi := ⟨some 37, Op.move (Operand.tmp 4), 23, _, _, none⟩) (v := .slice (some ⟨bb, oo, none⟩) n wc) rfl (fun _ _ _ h => h) (by rfl) (by assumption) (fun wS hSw => ?_) ?_
            · (try dsimp only at hSw); go_simp
            simp only [Act.put, List.setIfInBounds_toArray, List.set_cons_zero, List.set_cons_succ]
            refine wpAnyT_take (oi := ⟨some 38, Op.move (Operand.tmp 7), 3, _, _, none⟩) (v := .int .i64 k) rfl (fun _ _ _ h => h) (by rfl) (by assumption) (fun wS hSw => ?_) ?_
            · (try dsimp only at hSw); go_simp
            simp only [Act.put, List.setIfInBounds_toArray, List.set_cons_zero, List.set_cons_succ]
            refine wpAnyT_take (oi := ⟨some 39, Op.indexAddr 23 (Operand.tmp 37) (Operand.tmp 38), 0, _, _, none⟩) (v := .pointer (some ⟨bb, oo + k * 8, none⟩)) rfl (fun _ _ _ h => h) (by rfl) (by assumption) (fun wS hSw => ?_) ?_
            · (try dsimp only at hSw); go_simp
            simp only [Act.put, List.setIfInBounds_toArray, List.set_cons_zero, List.set_cons_succ]
            refine wpAnyT_take (oi := ⟨some 40, Op.load 44 (Operand.tmp 39), 44, _, _, none⟩) (v := .agg #[.int .i64 tk.id, uk, .int .i64 tk.lv, .string tk.cl, .string tk.nm, .bool tk.st, .int .i64 tk.wt, .int .i64 tk.ds]) rfl (fun _ _ _ h => h) (by rfl) (by assumption) (fun wS hSw => ?_) ?_
            · (try dsimp only at hSw); go_simp
            simp only [Act.put, List.setIfInBounds_toArray, List.set_cons_zero, List.set_cons_succ]
            refine wpAnyT_end ?_
            refine wpAnyH_listed #[true, true, true, true, true, true, true, true, false, false, false, false, false, false, false, false, false, false, false, false, false, false, false, false, false, false, false, false, false, false, false, false, false, false, false, false, false, false, false, false, false, false, false, false, false, false, false] (by kernel_rfl) ?_
            refine wpAnyT_begin [9, 10, 11, 12] (by kernel_rfl) (by kernel_rfl) ?_
            refine wpAnyT_take (oi := ⟨some 42, Op.move (Operand.tmp 4), 23, _, _, none⟩) (v := .slice (some ⟨bb, oo, none⟩) n wc) rfl (fun _ _ _ h => h) (by rfl) (by assumption) (fun wS hSw => ?_) ?_
            · (try dsimp only at hSw); go_simp
            simp only [Act.put, List.setIfInBounds_toArray, List.set_cons_zero, List.set_cons_succ]
            refine wpAnyT_take (oi := ⟨some 43, Op.move (Operand.tmp 7), 3, _, _, none⟩) (v := .int .i64 k) rfl (fun _ _ _ h => h) (by rfl) (by assumption) (fun wS hSw => ?_) ?_
            · (try dsimp only at hSw); go_simp
            simp only [Act.put, List.setIfInBounds_toArray, List.set_cons_zero, List.set_cons_succ]
            refine wpAnyT_take (oi := ⟨some 44, Op.indexAddr 23 (Operand.tmp 42) (Operand.tmp 43), 0, _, _, none⟩) (v := .pointer (some ⟨bb, oo + k * 8, none⟩)) rfl (fun _ _ _ h => h) (by rfl) (by assumption) (fun wS hSw => ?_) ?_
            · (try dsimp only at hSw); go_simp
            simp only [Act.put, List.setIfInBounds_toArray, List.set_cons_zero, List.set_cons_succ]
            refine wpAnyT_take (oi := ⟨some 45, Op.load 44 (Operand.tmp 44), 44, _, _, none⟩) (v := .agg #[.int .i64 tk.id, uk, .int .i64 tk.lv, .string tk.cl, .string tk.nm, .bool tk.st, .int .i64 tk.wt, .int .i64 tk.ds]) rfl (fun _ _ _ h => h) (by rfl) (by assumption) (fun wS hSw => ?_) ?_
            · (try dsimp only at hSw); go_simp
            simp only [Act.put, List.setIfInBounds_toArray, List.set_cons_zero, List.set_cons_succ]
            refine wpAnyT_end ?_
            refine wpAnyH_listed #[true, true, true, true, true, true, true, true, false, true, true, true, true, false, false, false, false, false, false, false, false, false, false, false, false, false, false, false, false, false, false, false, false, false, false, false, false, false, false, false, false, false, false, false, false, false, false] (by kernel_rfl) ?_
            refine wpAnyT_begin [13, 14, 15, 16] (by kernel_rfl) (by kernel_rfl) ?_
            refine wpAnyT_take (oi := ⟨some 46, Op.move (Operand.tmp 4), 23, _, _, none⟩) (v := .slice (some ⟨bb, oo, none⟩) n wc) rfl (fun _ _ _ h => h) (by rfl) (by assumption) (fun wS hSw => ?_) ?_
            · (try dsimp only at hSw); go_simp
            simp only [Act.put, List.setIfInBounds_toArray, List.set_cons_zero, List.set_cons_succ]
            refine wpAnyT_take (oi := ⟨some 47, Op.move (Operand.tmp 6), 3, _, _, none⟩) (v := .int .i64 i) rfl (fun _ _ _ h => h) (by rfl) (by assumption) (fun wS hSw => ?_) ?_
            · (try dsimp only at hSw); go_simp
            simp only [Act.put, List.setIfInBounds_toArray, List.set_cons_zero, List.set_cons_succ]
            refine wpAnyT_take (oi := ⟨some 48, Op.indexAddr 23 (Operand.tmp 46) (Operand.tmp 47), 0, _, _, none⟩) (v := .pointer (some ⟨bb, oo + i * 8, none⟩)) rfl (fun _ _ _ h => h) (by rfl) (by assumption) (fun wS hSw => ?_) ?_
            · (try dsimp only at hSw); go_simp
            simp only [Act.put, List.setIfInBounds_toArray, List.set_cons_zero, List.set_cons_succ]
            refine wpAnyT_take (oi := ⟨some 49, Op.load 44 (Operand.tmp 48), 44, _, _, none⟩) (v := .agg #[.int .i64 ti.id, ui, .int .i64 ti.lv, .string ti.cl, .string ti.nm, .bool ti.st, .int .i64 ti.wt, .int .i64 ti.ds]) rfl (fun _ _ _ h => h) (by rfl) (by assumption) (fun wS hSw => ?_) ?_
            · (try dsimp only at hSw); go_simp
            simp only [Act.put, List.setIfInBounds_toArray, List.set_cons_zero, List.set_cons_succ]
            refine wpAnyT_end ?_
            refine wpAnyH_listed #[true, true, true, true, true, true, true, true, false, true, true, true, true, true, true, true, true, false, false, false, false, false, false, false, false, false, false, false, false, false, false, false, false, false, false, false, false, false, false, false, false, false, false, false, false, false, false] (by kernel_rfl) ?_
            refine wpAnyH_ready (rs := [8]) (by kernel_rfl) (by simp) ?_
            refine AllReadyH.cons (o := ⟨some 41, Op.call { callee := Callee.value (Operand.func 20), args := #[Operand.tmp 36, Operand.tmp 40], argTypes := #[44, 44] }, 4, _, _, none⟩) rfl (fun K hK => ?_) AllReadyH.nil
            go_simp
            go_at_call 20
            refine (joined_is ti tk ui uk false HJ.out _ (RI.out.later X0) (RK.out.later X0)).mono ?_
            rintro e w6 ⟨rfl, B2⟩
            have X1 := X0.trans (B2.mono X0.size)
            go_wp2_with fail
            clear hHeld
            refine hK.out _ _ (HS2.out _ X1) (fun hHeld => ?_)
            clear hK K
            try simp only [List.setIfInBounds_toArray, List.set_cons_zero, List.set_cons_succ]
            refine wpAnyH_listed #[true, true, true, true, true, true, true, true, true, true, true, true, true, true, true, true, true, false, false, false, false, false, false, false, false, false, false, false, false, false, false, false, false, false, false, false, false, false, false, false, false, false, false, false, false, false, false] (by kernel_rfl) ?_
            clear X0 B2
            refine wpAnyH_ready (rs := [17]) (by kernel_rfl) (by simp) ?_
            refine AllReadyH.cons (o := ⟨some 50, Op.call { callee := Callee.value (Operand.func 20), args := #[Operand.tmp 45, Operand.tmp 49], argTypes := #[44, 44] }, 4, _, _, none⟩) rfl (fun K hK => ?_) AllReadyH.nil
            go_simp
            go_at_call 20
            refine (joined_is tk ti uk ui false HJ2.out _ (RK.out.later X1) (RI.out.later X1)).mono ?_
            rintro e w7 ⟨rfl, B2⟩
            have X2 := X1.trans (B2.mono X1.size)
            go_wp2_with fail
            clear hHeld
            refine hK.out _ _ (HS2.out _ X2) (fun hHeld => ?_)
            clear hK K
            try simp only [List.setIfInBounds_toArray, List.set_cons_zero, List.set_cons_succ]
            refine wpAnyH_listed #[true, true, true, true, true, true, true, true, true, true, true, true, true, true, true, true, true, true, false, false, false, false, false, false, false, false, false, false, false, false, false, false, false, false, false, false, false, false, false, false, false, false, false, false, false, false, false] (by kernel_rfl) ?_
            clear X1 B2
            refine wpAnyT_begin [18, 19] (by kernel_rfl) (by kernel_rfl) ?_
            refine wpAnyT_take (oi := ⟨some 51, Op.binOp BinOp.neq 4 (Operand.tmp 41) (Operand.tmp 50) 4, 4, _, _, none⟩) (v := .bool false) rfl (fun _ _ _ h => h) (by rfl) (by assumption) (fun wS hSw => ?_) ?_
            · (try dsimp only at hSw); go_simp
            simp only [Act.put, List.setIfInBounds_toArray, List.set_cons_zero, List.set_cons_succ]
            refine wpAnyT_take (oi := ⟨some 52, Op.move (Operand.tmp 51), 4, _, _, none⟩) (v := .bool false) rfl (fun _ _ _ h => h) (by rfl) (by assumption) (fun wS hSw => ?_) ?_
            · (try dsimp only at hSw); go_simp
            simp only [Act.put, List.setIfInBounds_toArray, List.set_cons_zero, List.set_cons_succ]
            refine wpAnyT_end ?_
            refine wpAnyH_listed #[true, true, true, true, true, true, true, true, true, true, true, true, true, true, true, true, true, true, true, true, false, false, false, false, false, false, false, false, false, false, false, false, false, false, false, false, false, false, false, false, false, false, false, false, false, false, false] (by kernel_rfl) ?_
            refine wpAnyT_begin [20, 21, 22, 23] (by kernel_rfl) (by kernel_rfl) ?_
            refine wpAnyT_take (oi := ⟨some 53, Op.move (Operand.tmp 4), 23, _, _, some (19, false)⟩) (v := .slice (some ⟨bb, oo, none⟩) n wc) rfl (fun _ _ _ h => h) (by rfl) (by assumption) (fun wS hSw => ?_) ?_
            · (try dsimp only at hSw); go_simp
            simp only [Act.put, List.setIfInBounds_toArray, List.set_cons_zero, List.set_cons_succ]
            refine wpAnyT_take (oi := ⟨some 54, Op.move (Operand.tmp 6), 3, _, _, some (19, false)⟩) (v := .int .i64 i) rfl (fun _ _ _ h => h) (by rfl) (by assumption) (fun wS hSw => ?_) ?_
            · (try dsimp only at hSw); go_simp
            simp only [Act.put, List.setIfInBounds_toArray, List.set_cons_zero, List.set_cons_succ]
            refine wpAnyT_take (oi := ⟨some 55, Op.indexAddr 23 (Operand.tmp 53) (Operand.tmp 54), 0, _, _, some (19, false)⟩) (v := .pointer (some ⟨bb, oo + i * 8, none⟩)) rfl (fun _ _ _ h => h) (by rfl) (by assumption) (fun wS hSw => ?_) ?_
            · (try dsimp only at hSw); go_simp
            simp only [Act.put, List.setIfInBounds_toArray, List.set_cons_zero, List.set_cons_succ]
            refine wpAnyT_take (oi := ⟨some 56, Op.load 44 (Operand.tmp 55), 44, _, _, some (19, false)⟩) (v := .agg #[.int .i64 ti.id, ui, .int .i64 ti.lv, .string ti.cl, .string ti.nm, .bool ti.st, .int .i64 ti.wt, .int .i64 ti.ds]) rfl (fun _ _ _ h => h) (by rfl) (by assumption) (fun wS hSw => ?_) ?_
            · (try dsimp only at hSw); go_simp
            simp only [Act.put, List.setIfInBounds_toArray, List.set_cons_zero, List.set_cons_succ]
            refine wpAnyT_end ?_
            refine wpAnyH_listed #[true, true, true, true, true, true, true, true, true, true, true, true, true, true, true, true, true, true, true, true, true, true, true, true, false, false, false, false, false, false, false, false, false, false, false, false, false, false, false, false, false, false, false, false, false, false, false] (by kernel_rfl) ?_
            refine wpAnyT_begin [24, 25, 26, 27] (by kernel_rfl) (by kernel_rfl) ?_
            refine wpAnyT_take (oi := ⟨some 57, Op.move (Operand.tmp 4), 23, _, _, some (19, false)⟩) (v := .slice (some ⟨bb, oo, none⟩) n wc) rfl (fun _ _ _ h => h) (by rfl) (by assumption) (fun wS hSw => ?_) ?_
            · (try dsimp only at hSw); go_simp
            simp only [Act.put, List.setIfInBounds_toArray, List.set_cons_zero, List.set_cons_succ]
            refine wpAnyT_take (oi := ⟨some 58, Op.move (Operand.tmp 7), 3, _, _, some (19, false)⟩) (v := .int .i64 k) rfl (fun _ _ _ h => h) (by rfl) (by assumption) (fun wS hSw => ?_) ?_
            · (try dsimp only at hSw); go_simp
            simp only [Act.put, List.setIfInBounds_toArray, List.set_cons_zero, List.set_cons_succ]
            refine wpAnyT_take (oi := ⟨some 59, Op.indexAddr 23 (Operand.tmp 57) (Operand.tmp 58), 0, _, _, some (19, false)⟩) (v := .pointer (some ⟨bb, oo + k * 8, none⟩)) rfl (fun _ _ _ h => h) (by rfl) (by assumption) (fun wS hSw => ?_) ?_
            · (try dsimp only at hSw); go_simp
            simp only [Act.put, List.setIfInBounds_toArray, List.set_cons_zero, List.set_cons_succ]
            refine wpAnyT_take (oi := ⟨some 60, Op.load 44 (Operand.tmp 59), 44, _, _, some (19, false)⟩) (v := .agg #[.int .i64 tk.id, uk, .int .i64 tk.lv, .string tk.cl, .string tk.nm, .bool tk.st, .int .i64 tk.wt, .int .i64 tk.ds]) rfl (fun _ _ _ h => h) (by rfl) (by assumption) (fun wS hSw => ?_) ?_
            · (try dsimp only at hSw); go_simp
            simp only [Act.put, List.setIfInBounds_toArray, List.set_cons_zero, List.set_cons_succ]
            refine wpAnyT_end ?_
            refine wpAnyH_listed #[true, true, true, true, true, true, true, true, true, true, true, true, true, true, true, true, true, true, true, true, true, true, true, true, true, true, true, true, false, false, false, false, false, false, false, false, false, false, false, false, false, false, false, false, false, false, false] (by kernel_rfl) ?_
            refine wpAnyH_ready (rs := [28]) (by kernel_rfl) (by simp) ?_
            refine AllReadyH.cons (o := ⟨some 61, Op.call { callee := Callee.value (Operand.func 20), args := #[Operand.tmp 56, Operand.tmp 60], argTypes := #[44, 44] }, 4, _, _, some (19, false)⟩) rfl (fun K hK => ?_) AllReadyH.nil
            go_simp
            go_at_call 20
            refine (joined_is ti tk ui uk false HJ.out _ (RI.out.later X2) (RK.out.later X2)).mono ?_
            rintro e w8 ⟨rfl, B2⟩
            have X3 := X2.trans (B2.mono X2.size)
            go_wp2_with fail
            clear hHeld
            refine hK.out _ _ (HS2.out _ X3) (fun hHeld => ?_)
            clear hK K
            try simp only [List.setIfInBounds_toArray, List.set_cons_zero, List.set_cons_succ]
            refine wpAnyH_listed #[true, true, true, true, true, true, true, true, true, true, true, true, true, true, true, true, true, true, true, true, true, true, true, true, true, true, true, true, true, false, false, false, false, false, false, false, false, false, false, false, false, false, false, false, false, false, false] (by kernel_rfl) ?_
            clear X2 B2
            refine wpAnyT_begin [29] (by kernel_rfl) (by kernel_rfl) ?_
            refine wpAnyT_take (oi := ⟨some 62, Op.move (Operand.tmp 61), 4, _, _, some (19, false)⟩) (v := .bool false) rfl (fun _ _ _ h => h) (by rfl) (by assumption) (fun wS hSw => ?_) ?_
            · (try dsimp only at hSw); go_simp
            simp only [Act.put, List.setIfInBounds_toArray, List.set_cons_zero, List.set_cons_succ]
            refine wpAnyT_end ?_
            refine wpAnyH_listed #[true, true, true, true, true, true, true, true, true, true, true, true, true, true, true, true, true, true, true, true, true, true, true, true, true, true, true, true, true, true, false, false, false, false, false, false, false, false, false, false, false, false, false, false, false, false, false] (by kernel_rfl) ?_
            refine wpAnyT_begin [30, 31, 32, 33, 34, 35] (by kernel_rfl) (by kernel_rfl) ?_
            refine wpAnyT_skip (oi := ⟨some 63, Op.move (Operand.tmp 5), 34, _, _, some (29, true)⟩) rfl (fun _ _ _ h => h) (by rfl) (by assumption) ?_
            simp only [Act.put, List.setIfInBounds_toArray, List.set_cons_zero, List.set_cons_succ]
            refine wpAnyT_skip (oi := ⟨some 64, Op.move (Operand.tmp 4), 23, _, _, some (29, true)⟩) rfl (fun _ _ _ h => h) (by rfl) (by assumption) ?_
            simp only [Act.put, List.setIfInBounds_toArray, List.set_cons_zero, List.set_cons_succ]
            refine wpAnyT_skip (oi := ⟨some 65, Op.move (Operand.tmp 6), 3, _, _, some (29, true)⟩) rfl (fun _ _ _ h => h) (by rfl) (by assumption) ?_
            simp only [Act.put, List.setIfInBounds_toArray, List.set_cons_zero, List.set_cons_succ]
            refine wpAnyT_skip (oi := ⟨some 66, Op.indexAddr 23 (Operand.tmp 64) (Operand.tmp 65), 0, _, _, some (29, true)⟩) rfl (fun _ _ _ h => h) (by rfl) (by assumption) ?_
            simp only [Act.put, List.setIfInBounds_toArray, List.set_cons_zero, List.set_cons_succ]
            refine wpAnyT_skip (oi := ⟨some 67, Op.fieldAddr 44 (Operand.tmp 66) 0, 0, _, _, some (29, true)⟩) rfl (fun _ _ _ h => h) (by rfl) (by assumption) ?_
            simp only [Act.put, List.setIfInBounds_toArray, List.set_cons_zero, List.set_cons_succ]
            refine wpAnyT_skip (oi := ⟨some 68, Op.load 3 (Operand.tmp 67), 3, _, _, some (29, true)⟩) rfl (fun _ _ _ h => h) (by rfl) (by assumption) ?_
            simp only [Act.put, List.setIfInBounds_toArray, List.set_cons_zero, List.set_cons_succ]
            refine wpAnyT_end ?_
            refine wpAnyH_listed #[true, true, true, true, true, true, true, true, true, true, true, true, true, true, true, true, true, true, true, true, true, true, true, true, true, true, true, true, true, true, true, true, true, true, true, true, false, false, false, false, false, false, false, false, false, false, false] (by kernel_rfl) ?_
            refine wpAnyT_begin [36, 37, 38, 39, 40, 41] (by kernel_rfl) (by kernel_rfl) ?_
            refine wpAnyT_skip (oi := ⟨some 69, Op.call { callee := Callee.value (Operand.func 25), args := #[Operand.tmp 63, Operand.tmp 68], argTypes := #[34, 3] }, 3, _, _, some (29, true)⟩) rfl (fun _ _ _ h => h) (by rfl) (by assumption) ?_
            simp only [Act.put, List.setIfInBounds_toArray, List.set_cons_zero, List.set_cons_succ]
            refine wpAnyT_skip (oi := ⟨some 70, Op.move (Operand.tmp 5), 34, _, _, some (29, true)⟩) rfl (fun _ _ _ h => h) (by rfl) (by assumption) ?_
            simp only [Act.put, List.setIfInBounds_toArray, List.set_cons_zero, List.set_cons_succ]
            refine wpAnyT_skip (oi := ⟨some 71, Op.move (Operand.tmp 4), 23, _, _, some (29, true)⟩) rfl (fun _ _ _ h => h) (by rfl) (by assumption) ?_
            simp only [Act.put, List.setIfInBounds_toArray, List.set_cons_zero, List.set_cons_succ]
            refine wpAnyT_skip (oi := ⟨some 72, Op.move (Operand.tmp 7), 3, _, _, some (29, true)⟩) rfl (fun _ _ _ h => h) (by rfl) (by assumption) ?_
            simp only [Act.put, List.setIfInBounds_toArray, List.set_cons_zero, List.set_cons_succ]
            refine wpAnyT_skip (oi := ⟨some 73, Op.indexAddr 23 (Operand.tmp 71) (Operand.tmp 72), 0, _, _, some (29, true)⟩) rfl (fun _ _ _ h => h) (by rfl) (by assumption) ?_
            simp only [Act.put, List.setIfInBounds_toArray, List.set_cons_zero, List.set_cons_succ]
            refine wpAnyT_skip (oi := ⟨some 74, Op.fieldAddr 44 (Operand.tmp 73) 0, 0, _, _, some (29, true)⟩) rfl (fun _ _ _ h => h) (by rfl) (by assumption) ?_
            simp only [Act.put, List.setIfInBounds_toArray, List.set_cons_zero, List.set_cons_succ]
            refine wpAnyT_end ?_
            refine wpAnyH_listed #[true, true, true, true, true, true, true, true, true, true, true, true, true, true, true, true, true, true, true, true, true, true, true, true, true, true, true, true, true, true, true, true, true, true, true, true, true, true, true, true, true, true, false, false, false, false, false] (by kernel_rfl) ?_
            refine wpAnyT_begin [42, 43, 44] (by kernel_rfl) (by kernel_rfl) ?_
            refine wpAnyT_skip (oi := ⟨some 75, Op.load 3 (Operand.tmp 74), 3, _, _, some (29, true)⟩) rfl (fun _ _ _ h => h) (by rfl) (by assumption) ?_
            simp only [Act.put, List.setIfInBounds_toArray, List.set_cons_zero, List.set_cons_succ]
            refine wpAnyT_skip (oi := ⟨some 76, Op.call { callee := Callee.value (Operand.func 25), args := #[Operand.tmp 70, Operand.tmp 75], argTypes := #[34, 3] }, 3, _, _, some (29, true)⟩) rfl (fun _ _ _ h => h) (by rfl) (by assumption) ?_
            simp only [Act.put, List.setIfInBounds_toArray, List.set_cons_zero, List.set_cons_succ]
            refine wpAnyT_skip (oi := ⟨some 77, Op.binOp BinOp.neq 3 (Operand.tmp 69) (Operand.tmp 76) 3, 4, _, _, some (29, true)⟩) rfl (fun _ _ _ h => h) (by rfl) (by assumption) ?_
            simp only [Act.put, List.setIfInBounds_toArray, List.set_cons_zero, List.set_cons_succ]
            refine wpAnyT_end ?_
            refine wpAnyH_listed #[true, true, true, true, true, true, true, true, true, true, true, true, true, true, true, true, true, true, true, true, true, true, true, true, true, true, true, true, true, true, true, true, true, true, true, true, true, true, true, true, true, true, true, true, true, false, false] (by kernel_rfl) ?_
            refine wpAnyT_begin [45, 46] (by kernel_rfl) (by kernel_rfl) ?_
            refine wpAnyT_take (oi := ⟨some 78, Op.pick (Operand.tmp 62) (Operand.tmp 77) (Operand.const (Value.bool false)), 4, _, _, some (19, false)⟩) (v := .bool false) rfl (fun _ _ _ h => h) (by rfl) (by assumption) (fun wS hSw => ?_) ?_
            · (try dsimp only at hSw); go_simp
            simp only [Act.put, List.setIfInBounds_toArray, List.set_cons_zero, List.set_cons_succ]
            refine wpAnyT_take (oi := ⟨some 79, Op.pick (Operand.tmp 52) (Operand.const (Value.bool true)) (Operand.tmp 78), 4, _, _, none⟩) (v := .bool false) rfl (fun _ _ _ h => h) (by rfl) (by assumption) (fun wS hSw => ?_) ?_
            · (try dsimp only at hSw); go_simp
            simp only [Act.put, List.setIfInBounds_toArray, List.set_cons_zero, List.set_cons_succ]
            refine wpAnyT_end ?_
            refine wpAnyH_listed #[true, true, true, true, true, true, true, true, true, true, true, true, true, true, true, true, true, true, true, true, true, true, true, true, true, true, true, true, true, true, true, true, true, true, true, true, true, true, true, true, true, true, true, true, true, true, true] (by kernel_rfl) ?_
            refine wpAnyH_done (by kernel_rfl) ?_ _
            clear hHeld HS2
            go_wp2_with fail
            go_roundw
            case rel => exact ⟨k + 1, by omega, by go_num, X3⟩
            case measure => simp [RowKit.intOf]; omega
          · replace HFk := Lib.hid (HFk.out rfl)
            have HS2 := Lib.hid (show ∀ w', Below w4.heap.size w4 w' → (w'.cell? ⟨bb, oo + i * 8, none⟩ = some (.int .i64 ti.id) ∧ w'.cell? ⟨bb, oo + i * 8 + 1, none⟩ = some (ui) ∧ w'.cell? ⟨bb, oo + i * 8 + 2, none⟩ = some (.int .i64 ti.lv) ∧ w'.cell? ⟨bb, oo + i * 8 + 3, none⟩ = some (.string ti.cl) ∧ w'.cell? ⟨bb, oo + i * 8 + 4, none⟩ = some (.string ti.nm) ∧ w'.cell? ⟨bb, oo + i * 8 + 5, none⟩ = some (.bool ti.st) ∧ w'.cell? ⟨bb, oo + i * 8 + 6, none⟩ = some (.int .i64 ti.wt) ∧ w'.cell? ⟨bb, oo + i * 8 + 7, none⟩ = some (.int .i64 ti.ds) ∧ w'.cell? ⟨bb, oo + k * 8, none⟩ = some (.int .i64 tk.id) ∧ w'.cell? ⟨bb, oo + k * 8 + 1, none⟩ = some (uk) ∧ w'.cell? ⟨bb, oo + k * 8 + 2, none⟩ = some (.int .i64 tk.lv) ∧ w'.cell? ⟨bb, oo + k * 8 + 3, none⟩ = some (.string tk.cl) ∧ w'.cell? ⟨bb, oo + k * 8 + 4, none⟩ = some (.string tk.nm) ∧ w'.cell? ⟨bb, oo + k * 8 + 5, none⟩ = some (.bool tk.st) ∧ w'.cell? ⟨bb, oo + k * 8 + 6, none⟩ = some (.int .i64 tk.wt) ∧ w'.cell? ⟨bb, oo + k * 8 + 7, none⟩ = some (.int .i64 tk.ds)) ∧ Below w4.heap.size w4 w' from fun w' h => ⟨⟨(Below.cell h (World.block_lt_of_cell? w4 _ HAI.out.1)).trans HAI.out.1, (Below.cell h (World.block_lt_of_cell? w4 _ HAI.out.2.1)).trans HAI.out.2.1, (Below.cell h (World.block_lt_of_cell? w4 _ HAI.out.2.2.1)).trans HAI.out.2.2.1, (Below.cell h (World.block_lt_of_cell? w4 _ HAI.out.2.2.2.1)).trans HAI.out.2.2.2.1, (Below.cell h (World.block_lt_of_cell? w4 _ HAI.out.2.2.2.2.1)).trans HAI.out.2.2.2.2.1, (Below.cell h (World.block_lt_of_cell? w4 _ HAI.out.2.2.2.2.2.1)).trans HAI.out.2.2.2.2.2.1, (Below.cell h (World.block_lt_of_cell? w4 _ HAI.out.2.2.2.2.2.2.1)).trans HAI.out.2.2.2.2.2.2.1, (Below.cell h (World.block_lt_of_cell? w4 _ HAI.out.2.2.2.2.2.2.2)).trans HAI.out.2.2.2.2.2.2.2, (Below.cell h (World.block_lt_of_cell? w4 _ HAK.out.1)).trans HAK.out.1, (Below.cell h (World.block_lt_of_cell? w4 _ HAK.out.2.1)).trans HAK.out.2.1, (Below.cell h (World.block_lt_of_cell? w4 _ HAK.out.2.2.1)).trans HAK.out.2.2.1, (Below.cell h (World.block_lt_of_cell? w4 _ HAK.out.2.2.2.1)).trans HAK.out.2.2.2.1, (Below.cell h (World.block_lt_of_cell? w4 _ HAK.out.2.2.2.2.1)).trans HAK.out.2.2.2.2.1, (Below.cell h (World.block_lt_of_cell? w4 _ HAK.out.2.2.2.2.2.1)).trans HAK.out.2.2.2.2.2.1, (Below.cell h (World.block_lt_of_cell? w4 _ HAK.out.2.2.2.2.2.2.1)).trans HAK.out.2.2.2.2.2.2.1, (Below.cell h (World.block_lt_of_cell? w4 _ HAK.out.2.2.2.2.2.2.2)).trans HAK.out.2.2.2.2.2.2.2⟩, h⟩)
            go_upto_region 12 with fail
            have X0 := hG2.drew
            refine wp_region_held_drew (S := (fun w' => (w'.cell? ⟨bb, oo + i * 8, none⟩ = some (.int .i64 ti.id) ∧ w'.cell? ⟨bb, oo + i * 8 + 1, none⟩ = some (ui) ∧ w'.cell? ⟨bb, oo + i * 8 + 2, none⟩ = some (.int .i64 ti.lv) ∧ w'.cell? ⟨bb, oo + i * 8 + 3, none⟩ = some (.string ti.cl) ∧ w'.cell? ⟨bb, oo + i * 8 + 4, none⟩ = some (.string ti.nm) ∧ w'.cell? ⟨bb, oo + i * 8 + 5, none⟩ = some (.bool ti.st) ∧ w'.cell? ⟨bb, oo + i * 8 + 6, none⟩ = some (.int .i64 ti.wt) ∧ w'.cell? ⟨bb, oo + i * 8 + 7, none⟩ = some (.int .i64 ti.ds) ∧ w'.cell? ⟨bb, oo + k * 8, none⟩ = some (.int .i64 tk.id) ∧ w'.cell? ⟨bb, oo + k * 8 + 1, none⟩ = some (uk) ∧ w'.cell? ⟨bb, oo + k * 8 + 2, none⟩ = some (.int .i64 tk.lv) ∧ w'.cell? ⟨bb, oo + k * 8 + 3, none⟩ = some (.string tk.cl) ∧ w'.cell? ⟨bb, oo + k * 8 + 4, none⟩ = some (.string tk.nm) ∧ w'.cell? ⟨bb, oo + k * 8 + 5, none⟩ = some (.bool tk.st) ∧ w'.cell? ⟨bb, oo + k * 8 + 6, none⟩ = some (.int .i64 tk.wt) ∧ w'.cell? ⟨bb, oo + k * 8 + 7, none⟩ = some (.int .i64 tk.ds)) ∧ Below w4.heap.size w4 w')) (by kernel_rfl) (HS2.out _ X0) (fun hHeld => ?_)
            generalize wr.drew = w5 at *
            clear hG2
            refine wpAnyT_begin [0, 1, 2, 3] (by kernel_rfl) (by kernel_rfl) ?_
            refine wpAnyT_take (oi := ⟨some 33, Op.move (Operand.tmp 4), 23, _, _, none⟩) (v := .slice (some ⟨bb, oo, none⟩) n wc) rfl (fun _ _ _ h => h) (by rfl) (by assumption) (fun wS hSw => ?_) ?_
            · (try dsimp only at hSw); go_simp
            simp only [Act.put, List.setIfInBounds_toArray, List.set_cons_zero, List.set_cons_succ]
            refine wpAnyT_take (oi := ⟨some 34, Op.move (Operand.tmp 6), 3, _, _, none⟩) (v := .int .i64 i) rfl (fun _ _ _ h => h) (by rfl) (by assumption) (fun wS hSw => ?_) ?_
            · (try dsimp only at hSw); go_simp
            simp only [Act.put, List.setIfInBounds_toArray, List.set_cons_zero, List.set_cons_succ]
            refine wpAnyT_take (oi := ⟨some 35, Op.indexAddr 23 (Operand.tmp 33) (Operand.tmp 34), 0, _, _, none⟩) (v := .pointer (some ⟨bb, oo + i * 8, none⟩)) rfl (fun _ _ _ h => h) (by rfl) (by assumption) (fun wS hSw => ?_) ?_
            · (try dsimp only at hSw); go_simp
            simp only [Act.put, List.setIfInBounds_toArray, List.set_cons_zero, List.set_cons_succ]
            refine wpAnyT_take (oi := ⟨some 36, Op.load 44 (Operand.tmp 35), 44, _, _, none⟩) (v := .agg #[.int .i64 ti.id, ui, .int .i64 ti.lv, .string ti.cl, .string ti.nm, .bool ti.st, .int .i64 ti.wt, .int .i64 ti.ds]) rfl (fun _ _ _ h => h) (by rfl) (by assumption) (fun wS hSw => ?_) ?_
            · (try dsimp only at hSw); go_simp
            simp only [Act.put, List.setIfInBounds_toArray, List.set_cons_zero, List.set_cons_succ]
            refine wpAnyT_end ?_
            refine wpAnyH_listed #[true, true, true, true, false, false, false, false, false, false, false, false, false, false, false, false, false, false, false, false, false, false, false, false, false, false, false, false, false, false, false, false, false, false, false, false, false, false, false, false, false, false, false, false, false, false, false] (by kernel_rfl) ?_
            refine wpAnyT_begin [4, 5, 6, 7] (by kernel_rfl) (by kernel_rfl) ?_
            refine wpAnyT_take (oi := ⟨some 37, Op.move (Operand.tmp 4), 23, _, _, none⟩) (v := .slice (some ⟨bb, oo, none⟩) n wc) rfl (fun _ _ _ h => h) (by rfl) (by assumption) (fun wS hSw => ?_) ?_
            · (try dsimp only at hSw); go_simp
            simp only [Act.put, List.setIfInBounds_toArray, List.set_cons_zero, List.set_cons_succ]
            refine wpAnyT_take (oi := ⟨some 38, Op.move (Operand.tmp 7), 3, _, _, none⟩) (v := .int .i64 k) rfl (fun _ _ _ h => h) (by rfl) (by assumption) (fun wS hSw => ?_) ?_
            · (try dsimp only at hSw); go_simp
            simp only [Act.put, List.setIfInBounds_toArray, List.set_cons_zero, List.set_cons_succ]
            refine wpAnyT_take (oi := ⟨some 39, Op.indexAddr 23 (Operand.tmp 37) (Operand.tmp 38), 0, _, _, none⟩) (v := .pointer (some ⟨bb, oo + k * 8, none⟩)) rfl (fun _ _ _ h => h) (by rfl) (by assumption) (fun wS hSw => ?_) ?_
            · (try dsimp only at hSw); go_simp
            simp only [Act.put, List.setIfInBounds_toArray, List.set_cons_zero, List.set_cons_succ]
            refine wpAnyT_take (oi := ⟨some 40, Op.load 44 (Operand.tmp 39), 44, _, _, none⟩) (v := .agg #[.int .i64 tk.id, uk, .int .i64 tk.lv, .string tk.cl, .string tk.nm, .bool tk.st, .int .i64 tk.wt, .int .i64 tk.ds]) rfl (fun _ _ _ h => h) (by rfl) (by assumption) (fun wS hSw => ?_) ?_
            · (try dsimp only at hSw); go_simp
            simp only [Act.put, List.setIfInBounds_toArray, List.set_cons_zero, List.set_cons_succ]
            refine wpAnyT_end ?_
            refine wpAnyH_listed #[true, true, true, true, true, true, true, true, false, false, false, false, false, false, false, false, false, false, false, false, false, false, false, false, false, false, false, false, false, false, false, false, false, false, false, false, false, false, false, false, false, false, false, false, false, false, false] (by kernel_rfl) ?_
            refine wpAnyT_begin [9, 10, 11, 12] (by kernel_rfl) (by kernel_rfl) ?_
            refine wpAnyT_take (oi := ⟨some 42, Op.move (Operand.tmp 4), 23, _, _, none⟩) (v := .slice (some ⟨bb, oo, none⟩) n wc) rfl (fun _ _ _ h => h) (by rfl) (by assumption) (fun wS hSw => ?_) ?_
            · (try dsimp only at hSw); go_simp
            simp only [Act.put, List.setIfInBounds_toArray, List.set_cons_zero, List.set_cons_succ]
            refine wpAnyT_take (oi := ⟨some 43, Op.move (Operand.tmp 7), 3, _, _, none⟩) (v := .int .i64 k) rfl (fun _ _ _ h => h) (by rfl) (by assumption) (fun wS hSw => ?_) ?_
            · (try dsimp only at hSw); go_simp
            simp only [Act.put, List.setIfInBounds_toArray, List.set_cons_zero, List.set_cons_succ]
            refine wpAnyT_take (oi := ⟨some 44, Op.indexAddr 23 (Operand.tmp 42) (Operand.tmp 43), 0, _, _, none⟩) (v := .pointer (some ⟨bb, oo + k * 8, none⟩)) rfl (fun _ _ _ h => h) (by rfl) (by assumption) (fun wS hSw => ?_) ?_
            · (try dsimp only at hSw); go_simp
            simp only [Act.put, List.setIfInBounds_toArray, List.set_cons_zero, List.set_cons_succ]
            refine wpAnyT_take (oi := ⟨some 45, Op.load 44 (Operand.tmp 44), 44, _, _, none⟩) (v := .agg #[.int .i64 tk.id, uk, .int .i64 tk.lv, .string tk.cl, .string tk.nm, .bool tk.st, .int .i64 tk.wt, .int .i64 tk.ds]) rfl (fun _ _ _ h => h) (by rfl) (by assumption) (fun wS hSw => ?_) ?_
            · (try dsimp only at hSw); go_simp
            simp only [Act.put, List.setIfInBounds_toArray, List.set_cons_zero, List.set_cons_succ]
            refine wpAnyT_end ?_
            refine wpAnyH_listed #[true, true, true, true, true, true, true, true, false, true, true, true, true, false, false, false, false, false, false, false, false, false, false, false, false, false, false, false, false, false, false, false, false, false, false, false, false, false, false, false, false, false, false, false, false, false, false] (by kernel_rfl) ?_
            refine wpAnyT_begin [13, 14, 15, 16] (by kernel_rfl) (by kernel_rfl) ?_
            refine wpAnyT_take (oi := ⟨some 46, Op.move (Operand.tmp 4), 23, _, _, none⟩) (v := .slice (some ⟨bb, oo, none⟩) n wc) rfl (fun _ _ _ h => h) (by rfl) (by assumption) (fun wS hSw => ?_) ?_
            · (try dsimp only at hSw); go_simp
            simp only [Act.put, List.setIfInBounds_toArray, List.set_cons_zero, List.set_cons_succ]
            refine wpAnyT_take (oi := ⟨some 47, Op.move (Operand.tmp 6), 3, _, _, none⟩) (v := .int .i64 i) rfl (fun _ _ _ h => h) (by rfl) (by assumption) (fun wS hSw => ?_) ?_
            · (try dsimp only at hSw); go_simp
            simp only [Act.put, List.setIfInBounds_toArray, List.set_cons_zero, List.set_cons_succ]
            refine wpAnyT_take (oi := ⟨some 48, Op.indexAddr 23 (Operand.tmp 46) (Operand.tmp 47), 0, _, _, none⟩) (v := .pointer (some ⟨bb, oo + i * 8, none⟩)) rfl (fun _ _ _ h => h) (by rfl) (by assumption) (fun wS hSw => ?_) ?_
            · (try dsimp only at hSw); go_simp
            simp only [Act.put, List.setIfInBounds_toArray, List.set_cons_zero, List.set_cons_succ]
            refine wpAnyT_take (oi := ⟨some 49, Op.load 44 (Operand.tmp 48), 44, _, _, none⟩) (v := .agg #[.int .i64 ti.id, ui, .int .i64 ti.lv, .string ti.cl, .string ti.nm, .bool ti.st, .int .i64 ti.wt, .int .i64 ti.ds]) rfl (fun _ _ _ h => h) (by rfl) (by assumption) (fun wS hSw => ?_) ?_
            · (try dsimp only at hSw); go_simp
            simp only [Act.put, List.setIfInBounds_toArray, List.set_cons_zero, List.set_cons_succ]
            refine wpAnyT_end ?_
            refine wpAnyH_listed #[true, true, true, true, true, true, true, true, false, true, true, true, true, true, true, true, true, false, false, false, false, false, false, false, false, false, false, false, false, false, false, false, false, false, false, false, false, false, false, false, false, false, false, false, false, false, false] (by kernel_rfl) ?_
            refine wpAnyH_ready (rs := [8]) (by kernel_rfl) (by simp) ?_
            refine AllReadyH.cons (o := ⟨some 41, Op.call { callee := Callee.value (Operand.func 20), args := #[Operand.tmp 36, Operand.tmp 40], argTypes := #[44, 44] }, 4, _, _, none⟩) rfl (fun K hK => ?_) AllReadyH.nil
            go_simp
            go_at_call 20
            refine (joined_is ti tk ui uk true HJ.out _ (RI.out.later X0) (RK.out.later X0)).mono ?_
            rintro e w6 ⟨rfl, B2⟩
            have X1 := X0.trans (B2.mono X0.size)
            go_wp2_with fail
            clear hHeld
            refine hK.out _ _ (HS2.out _ X1) (fun hHeld => ?_)
            clear hK K
            try simp only [List.setIfInBounds_toArray, List.set_cons_zero, List.set_cons_succ]
            refine wpAnyH_listed #[true, true, true, true, true, true, true, true, true, true, true, true, true, true, true, true, true, false, false, false, false, false, false, false, false, false, false, false, false, false, false, false, false, false, false, false, false, false, false, false, false, false, false, false, false, false, false] (by kernel_rfl) ?_
            clear X0 B2
            refine wpAnyH_ready (rs := [17]) (by kernel_rfl) (by simp) ?_
            refine AllReadyH.cons (o := ⟨some 50, Op.call { callee := Callee.value (Operand.func 20), args := #[Operand.tmp 45, Operand.tmp 49], argTypes := #[44, 44] }, 4, _, _, none⟩) rfl (fun K hK => ?_) AllReadyH.nil
            go_simp
            go_at_call 20
            refine (joined_is tk ti uk ui true HJ2.out _ (RK.out.later X1) (RI.out.later X1)).mono ?_
            rintro e w7 ⟨rfl, B2⟩
            have X2 := X1.trans (B2.mono X1.size)
            go_wp2_with fail
            clear hHeld
            refine hK.out _ _ (HS2.out _ X2) (fun hHeld => ?_)
            clear hK K
            try simp only [List.setIfInBounds_toArray, List.set_cons_zero, List.set_cons_succ]
            refine wpAnyH_listed #[true, true, true, true, true, true, true, true, true, true, true, true, true, true, true, true, true, true, false, false, false, false, false, false, false, false, false, false, false, false, false, false, false, false, false, false, false, false, false, false, false, false, false, false, false, false, false] (by kernel_rfl) ?_
            clear X1 B2
            refine wpAnyT_begin [18, 19] (by kernel_rfl) (by kernel_rfl) ?_
            refine wpAnyT_take (oi := ⟨some 51, Op.binOp BinOp.neq 4 (Operand.tmp 41) (Operand.tmp 50) 4, 4, _, _, none⟩) (v := .bool false) rfl (fun _ _ _ h => h) (by rfl) (by assumption) (fun wS hSw => ?_) ?_
            · (try dsimp only at hSw); go_simp
            simp only [Act.put, List.setIfInBounds_toArray, List.set_cons_zero, List.set_cons_succ]
            refine wpAnyT_take (oi := ⟨some 52, Op.move (Operand.tmp 51), 4, _, _, none⟩) (v := .bool false) rfl (fun _ _ _ h => h) (by rfl) (by assumption) (fun wS hSw => ?_) ?_
            · (try dsimp only at hSw); go_simp
            simp only [Act.put, List.setIfInBounds_toArray, List.set_cons_zero, List.set_cons_succ]
            refine wpAnyT_end ?_
            refine wpAnyH_listed #[true, true, true, true, true, true, true, true, true, true, true, true, true, true, true, true, true, true, true, true, false, false, false, false, false, false, false, false, false, false, false, false, false, false, false, false, false, false, false, false, false, false, false, false, false, false, false] (by kernel_rfl) ?_
            refine wpAnyT_begin [20, 21, 22, 23] (by kernel_rfl) (by kernel_rfl) ?_
            refine wpAnyT_take (oi := ⟨some 53, Op.move (Operand.tmp 4), 23, _, _, some (19, false)⟩) (v := .slice (some ⟨bb, oo, none⟩) n wc) rfl (fun _ _ _ h => h) (by rfl) (by assumption) (fun wS hSw => ?_) ?_
            · (try dsimp only at hSw); go_simp
            simp only [Act.put, List.setIfInBounds_toArray, List.set_cons_zero, List.set_cons_succ]
            refine wpAnyT_take (oi := ⟨some 54, Op.move (Operand.tmp 6), 3, _, _, some (19, false)⟩) (v := .int .i64 i) rfl (fun _ _ _ h => h) (by rfl) (by assumption) (fun wS hSw => ?_) ?_
            · (try dsimp only at hSw); go_simp
            simp only [Act.put, List.setIfInBounds_toArray, List.set_cons_zero, List.set_cons_succ]
            refine wpAnyT_take (oi := ⟨some 55, Op.indexAddr 23 (Operand.tmp 53) (Operand.tmp 54), 0, _, _, some (19, false)⟩) (v := .pointer (some ⟨bb, oo + i * 8, none⟩)) rfl (fun _ _ _ h => h) (by rfl) (by assumption) (fun wS hSw => ?_) ?_
            · (try dsimp only at hSw); go_simp
            simp only [Act.put, List.setIfInBounds_toArray, List.set_cons_zero, List.set_cons_succ]
            refine wpAnyT_take (oi := ⟨some 56, Op.load 44 (Operand.tmp 55), 44, _, _, some (19, false)⟩) (v := .agg #[.int .i64 ti.id, ui, .int .i64 ti.lv, .string ti.cl, .string ti.nm, .bool ti.st, .int .i64 ti.wt, .int .i64 ti.ds]) rfl (fun _ _ _ h => h) (by rfl) (by assumption) (fun wS hSw => ?_) ?_
            · (try dsimp only at hSw); go_simp
            simp only [Act.put, List.setIfInBounds_toArray, List.set_cons_zero, List.set_cons_succ]
            refine wpAnyT_end ?_
            refine wpAnyH_listed #[true, true, true, true, true, true, true, true, true, true, true, true, true, true, true, true, true, true, true, true, true, true, true, true, false, false, false, false, false, false, false, false, false, false, false, false, false, false, false, false, false, false, false, false, false, false, false] (by kernel_rfl) ?_
            refine wpAnyT_begin [24, 25, 26, 27] (by kernel_rfl) (by kernel_rfl) ?_
            refine wpAnyT_take (oi := ⟨some 57, Op.move (Operand.tmp 4), 23, _, _, some (19, false)⟩) (v := .slice (some ⟨bb, oo, none⟩) n wc) rfl (fun _ _ _ h => h) (by rfl) (by assumption) (fun wS hSw => ?_) ?_
            · (try dsimp only at hSw); go_simp
            simp only [Act.put, List.setIfInBounds_toArray, List.set_cons_zero, List.set_cons_succ]
            refine wpAnyT_take (oi := ⟨some 58, Op.move (Operand.tmp 7), 3, _, _, some (19, false)⟩) (v := .int .i64 k) rfl (fun _ _ _ h => h) (by rfl) (by assumption) (fun wS hSw => ?_) ?_
            · (try dsimp only at hSw); go_simp
            simp only [Act.put, List.setIfInBounds_toArray, List.set_cons_zero, List.set_cons_succ]
            refine wpAnyT_take (oi := ⟨some 59, Op.indexAddr 23 (Operand.tmp 57) (Operand.tmp 58), 0, _, _, some (19, false)⟩) (v := .pointer (some ⟨bb, oo + k * 8, none⟩)) rfl (fun _ _ _ h => h) (by rfl) (by assumption) (fun wS hSw => ?_) ?_
            · (try dsimp only at hSw); go_simp
            simp only [Act.put, List.setIfInBounds_toArray, List.set_cons_zero, List.set_cons_succ]
            refine wpAnyT_take (oi := ⟨some 60, Op.load 44 (Operand.tmp 59), 44, _, _, some (19, false)⟩) (v := .agg #[.int .i64 tk.id, uk, .int .i64 tk.lv, .string tk.cl, .string tk.nm, .bool tk.st, .int .i64 tk.wt, .int .i64 tk.ds]) rfl (fun _ _ _ h => h) (by rfl) (by assumption) (fun wS hSw => ?_) ?_
            · (try dsimp only at hSw); go_simp
            simp only [Act.put, List.setIfInBounds_toArray, List.set_cons_zero, List.set_cons_succ]
            refine wpAnyT_end ?_
            refine wpAnyH_listed #[true, true, true, true, true, true, true, true, true, true, true, true, true, true, true, true, true, true, true, true, true, true, true, true, true, true, true, true, false, false, false, false, false, false, false, false, false, false, false, false, false, false, false, false, false, false, false] (by kernel_rfl) ?_
            refine wpAnyH_ready (rs := [28]) (by kernel_rfl) (by simp) ?_
            refine AllReadyH.cons (o := ⟨some 61, Op.call { callee := Callee.value (Operand.func 20), args := #[Operand.tmp 56, Operand.tmp 60], argTypes := #[44, 44] }, 4, _, _, some (19, false)⟩) rfl (fun K hK => ?_) AllReadyH.nil
            go_simp
            go_at_call 20
            refine (joined_is ti tk ui uk true HJ.out _ (RI.out.later X2) (RK.out.later X2)).mono ?_
            rintro e w8 ⟨rfl, B2⟩
            have X3 := X2.trans (B2.mono X2.size)
            go_wp2_with fail
            clear hHeld
            refine hK.out _ _ (HS2.out _ X3) (fun hHeld => ?_)
            clear hK K
            try simp only [List.setIfInBounds_toArray, List.set_cons_zero, List.set_cons_succ]
            refine wpAnyH_listed #[true, true, true, true, true, true, true, true, true, true, true, true, true, true, true, true, true, true, true, true, true, true, true, true, true, true, true, true, true, false, false, false, false, false, false, false, false, false, false, false, false, false, false, false, false, false, false] (by kernel_rfl) ?_
            clear X2 B2
            refine wpAnyT_begin [29] (by kernel_rfl) (by kernel_rfl) ?_
            refine wpAnyT_take (oi := ⟨some 62, Op.move (Operand.tmp 61), 4, _, _, some (19, false)⟩) (v := .bool true) rfl (fun _ _ _ h => h) (by rfl) (by assumption) (fun wS hSw => ?_) ?_
            · (try dsimp only at hSw); go_simp
            simp only [Act.put, List.setIfInBounds_toArray, List.set_cons_zero, List.set_cons_succ]
            refine wpAnyT_end ?_
            refine wpAnyH_listed #[true, true, true, true, true, true, true, true, true, true, true, true, true, true, true, true, true, true, true, true, true, true, true, true, true, true, true, true, true, true, false, false, false, false, false, false, false, false, false, false, false, false, false, false, false, false, false] (by kernel_rfl) ?_
            refine wpAnyT_begin [30, 31, 32] (by kernel_rfl) (by kernel_rfl) ?_
            refine wpAnyT_take (oi := ⟨some 63, Op.move (Operand.tmp 5), 34, _, _, some (29, true)⟩) (v := .slice ga gn gc) rfl (fun _ _ _ h => h) (by rfl) (by assumption) (fun wS hSw => ?_) ?_
            · (try dsimp only at hSw); go_simp
            simp only [Act.put, List.setIfInBounds_toArray, List.set_cons_zero, List.set_cons_succ]
            refine wpAnyT_take (oi := ⟨some 64, Op.move (Operand.tmp 4), 23, _, _, some (29, true)⟩) (v := .slice (some ⟨bb, oo, none⟩) n wc) rfl (fun _ _ _ h => h) (by rfl) (by assumption) (fun wS hSw => ?_) ?_
            · (try dsimp only at hSw); go_simp
            simp only [Act.put, List.setIfInBounds_toArray, List.set_cons_zero, List.set_cons_succ]
            refine wpAnyT_take (oi := ⟨some 65, Op.move (Operand.tmp 6), 3, _, _, some (29, true)⟩) (v := .int .i64 i) rfl (fun _ _ _ h => h) (by rfl) (by assumption) (fun wS hSw => ?_) ?_
            · (try dsimp only at hSw); go_simp
            simp only [Act.put, List.setIfInBounds_toArray, List.set_cons_zero, List.set_cons_succ]
            refine wpAnyT_end ?_
            refine wpAnyH_listed #[true, true, true, true, true, true, true, true, true, true, true, true, true, true, true, true, true, true, true, true, true, true, true, true, true, true, true, true, true, true, true, true, true, false, false, false, false, false, false, false, false, false, false, false, false, false, false] (by kernel_rfl) ?_
            refine wpAnyT_begin [33, 34, 35] (by kernel_rfl) (by kernel_rfl) ?_
            refine wpAnyT_take (oi := ⟨some 66, Op.indexAddr 23 (Operand.tmp 64) (Operand.tmp 65), 0, _, _, some (29, true)⟩) (v := .pointer (some ⟨bb, oo + i * 8, none⟩)) rfl (fun _ _ _ h => h) (by rfl) (by assumption) (fun wS hSw => ?_) ?_
            · (try dsimp only at hSw); go_simp
            simp only [Act.put, List.setIfInBounds_toArray, List.set_cons_zero, List.set_cons_succ]
            refine wpAnyT_take (oi := ⟨some 67, Op.fieldAddr 44 (Operand.tmp 66) 0, 0, _, _, some (29, true)⟩) (v := .pointer (some ⟨bb, oo + i * 8, none⟩)) rfl (fun _ _ _ h => h) (by rfl) (by assumption) (fun wS hSw => ?_) ?_
            · (try dsimp only at hSw); go_simp
            simp only [Act.put, List.setIfInBounds_toArray, List.set_cons_zero, List.set_cons_succ]
            refine wpAnyT_take (oi := ⟨some 68, Op.load 3 (Operand.tmp 67), 3, _, _, some (29, true)⟩) (v := .int .i64 ti.id) rfl (fun _ _ _ h => h) (by rfl) (by assumption) (fun wS hSw => ?_) ?_
            · (try dsimp only at hSw); go_simp
            simp only [Act.put, List.setIfInBounds_toArray, List.set_cons_zero, List.set_cons_succ]
            refine wpAnyT_end ?_
            refine wpAnyH_listed #[true, true, true, true, true, true, true, true, true, true, true, true, true, true, true, true, true, true, true, true, true, true, true, true, true, true, true, true, true, true, true, true, true, true, true, true, false, false, false, false, false, false, false, false, false, false, false] (by kernel_rfl) ?_
            refine wpAnyT_begin [37, 38, 39] (by kernel_rfl) (by kernel_rfl) ?_
            refine wpAnyT_take (oi := ⟨some 70, Op.move (Operand.tmp 5), 34, _, _, some (29, true)⟩) (v := .slice ga gn gc) rfl (fun _ _ _ h => h) (by rfl) (by assumption) (fun wS hSw => ?_) ?_
            · (try dsimp only at hSw); go_simp
            simp only [Act.put, List.setIfInBounds_toArray, List.set_cons_zero, List.set_cons_succ]
            refine wpAnyT_take (oi := ⟨some 71, Op.move (Operand.tmp 4), 23, _, _, some (29, true)⟩) (v := .slice (some ⟨bb, oo, none⟩) n wc) rfl (fun _ _ _ h => h) (by rfl) (by assumption) (fun wS hSw => ?_) ?_
            · (try dsimp only at hSw); go_simp
            simp only [Act.put, List.setIfInBounds_toArray, List.set_cons_zero, List.set_cons_succ]
            refine wpAnyT_take (oi := ⟨some 72, Op.move (Operand.tmp 7), 3, _, _, some (29, true)⟩) (v := .int .i64 k) rfl (fun _ _ _ h => h) (by rfl) (by assumption) (fun wS hSw => ?_) ?_
            · (try dsimp only at hSw); go_simp
            simp only [Act.put, List.setIfInBounds_toArray, List.set_cons_zero, List.set_cons_succ]
            refine wpAnyT_end ?_
            refine wpAnyH_listed #[true, true, true, true, true, true, true, true, true, true, true, true, true, true, true, true, true, true, true, true, true, true, true, true, true, true, true, true, true, true, true, true, true, true, true, true, false, true, true, true, false, false, false, false, false, false, false] (by kernel_rfl) ?_
            refine wpAnyT_begin [40, 41, 42] (by kernel_rfl) (by kernel_rfl) ?_
            refine wpAnyT_take (oi := ⟨some 73, Op.indexAddr 23 (Operand.tmp 71) (Operand.tmp 72), 0, _, _, some (29, true)⟩) (v := .pointer (some ⟨bb, oo + k * 8, none⟩)) rfl (fun _ _ _ h => h) (by rfl) (by assumption) (fun wS hSw => ?_) ?_
            · (try dsimp only at hSw); go_simp
            simp only [Act.put, List.setIfInBounds_toArray, List.set_cons_zero, List.set_cons_succ]
            refine wpAnyT_take (oi := ⟨some 74, Op.fieldAddr 44 (Operand.tmp 73) 0, 0, _, _, some (29, true)⟩) (v := .pointer (some ⟨bb, oo + k * 8, none⟩)) rfl (fun _ _ _ h => h) (by rfl) (by assumption) (fun wS hSw => ?_) ?_
            · (try dsimp only at hSw); go_simp
            simp only [Act.put, List.setIfInBounds_toArray, List.set_cons_zero, List.set_cons_succ]
            refine wpAnyT_take (oi := ⟨some 75, Op.load 3 (Operand.tmp 74), 3, _, _, some (29, true)⟩) (v := .int .i64 tk.id) rfl (fun _ _ _ h => h) (by rfl) (by assumption) (fun wS hSw => ?_) ?_
            · (try dsimp only at hSw); go_simp
            simp only [Act.put, List.setIfInBounds_toArray, List.set_cons_zero, List.set_cons_succ]
            refine wpAnyT_end ?_
            refine wpAnyH_listed #[true, true, true, true, true, true, true, true, true, true, true, true, true, true, true, true, true, true, true, true, true, true, true, true, true, true, true, true, true, true, true, true, true, true, true, true, false, true, true, true, true, true, true, false, false, false, false] (by kernel_rfl) ?_
            refine wpAnyH_ready (rs := [36]) (by kernel_rfl) (by simp) ?_
            refine AllReadyH.cons (o := ⟨some 69, Op.call { callee := Callee.value (Operand.func 25), args := #[Operand.tmp 63, Operand.tmp 68], argTypes := #[34, 3] }, 3, _, _, some (29, true)⟩) rfl (fun K hK => ?_) AllReadyH.nil
            go_simp
            go_at_call 25
            rw [HIi.out]
            refine (made_find _ HM.out (i := i) (by rw [HN.out]; omega) fi HFi.out _ (HG.out.later X3)).mono ?_
            rintro e wq ⟨rfl, hwq⟩
            subst hwq
            go_wp2_with fail
            clear hHeld
            refine hK.out _ _ (HS2.out _ X3) (fun hHeld => ?_)
            clear hK K
            try simp only [List.setIfInBounds_toArray, List.set_cons_zero, List.set_cons_succ]
            refine wpAnyH_listed #[true, true, true, true, true, true, true, true, true, true, true, true, true, true, true, true, true, true, true, true, true, true, true, true, true, true, true, true, true, true, true, true, true, true, true, true, true, true, true, true, true, true, true, false, false, false, false] (by kernel_rfl) ?_
            refine wpAnyH_ready (rs := [43]) (by kernel_rfl) (by simp) ?_
            refine AllReadyH.cons (o := ⟨some 76, Op.call { callee := Callee.value (Operand.func 25), args := #[Operand.tmp 70, Operand.tmp 75], argTypes := #[34, 3] }, 3, _, _, some (29, true)⟩) rfl (fun K hK => ?_) AllReadyH.nil
            go_simp
            go_at_call 25
            rw [HIk.out]
            refine (made_find _ HM.out (i := k) (by rw [HN.out]; omega) fi HFk.out _ (HG.out.later X3)).mono ?_
            rintro e wq ⟨rfl, hwq⟩
            subst hwq
            go_wp2_with fail
            clear hHeld
            refine hK.out _ _ (HS2.out _ X3) (fun hHeld => ?_)
            clear hK K
            try simp only [List.setIfInBounds_toArray, List.set_cons_zero, List.set_cons_succ]
            refine wpAnyH_listed #[true, true, true, true, true, true, true, true, true, true, true, true, true, true, true, true, true, true, true, true, true, true, true, true, true, true, true, true, true, true, true, true, true, true, true, true, true, true, true, true, true, true, true, true, false, false, false] (by kernel_rfl) ?_
            refine wpAnyT_begin [44] (by kernel_rfl) (by kernel_rfl) ?_
            refine wpAnyT_take (oi := ⟨some 77, Op.binOp BinOp.neq 3 (Operand.tmp 69) (Operand.tmp 76) 3, 4, _, _, some (29, true)⟩) (v := .bool false) rfl (fun _ _ _ h => h) (by rfl) (by assumption) (fun wS hSw => ?_) ?_
            · (try dsimp only at hSw); go_simp
            simp only [Act.put, List.setIfInBounds_toArray, List.set_cons_zero, List.set_cons_succ]
            refine wpAnyT_end ?_
            refine wpAnyH_listed #[true, true, true, true, true, true, true, true, true, true, true, true, true, true, true, true, true, true, true, true, true, true, true, true, true, true, true, true, true, true, true, true, true, true, true, true, true, true, true, true, true, true, true, true, true, false, false] (by kernel_rfl) ?_
            refine wpAnyT_begin [45, 46] (by kernel_rfl) (by kernel_rfl) ?_
            refine wpAnyT_take (oi := ⟨some 78, Op.pick (Operand.tmp 62) (Operand.tmp 77) (Operand.const (Value.bool false)), 4, _, _, some (19, false)⟩) (v := .bool false) rfl (fun _ _ _ h => h) (by rfl) (by assumption) (fun wS hSw => ?_) ?_
            · (try dsimp only at hSw); go_simp
            simp only [Act.put, List.setIfInBounds_toArray, List.set_cons_zero, List.set_cons_succ]
            refine wpAnyT_take (oi := ⟨some 79, Op.pick (Operand.tmp 52) (Operand.const (Value.bool true)) (Operand.tmp 78), 4, _, _, none⟩) (v := .bool false) rfl (fun _ _ _ h => h) (by rfl) (by assumption) (fun wS hSw => ?_) ?_
            · (try dsimp only at hSw); go_simp
            simp only [Act.put, List.setIfInBounds_toArray, List.set_cons_zero, List.set_cons_succ]
            refine wpAnyT_end ?_
            refine wpAnyH_listed #[true, true, true, true, true, true, true, true, true, true, true, true, true, true, true, true, true, true, true, true, true, true, true, true, true, true, true, true, true, true, true, true, true, true, true, true, true, true, true, true, true, true, true, true, true, true, true] (by kernel_rfl) ?_
            refine wpAnyH_done (by kernel_rfl) ?_ _
            clear hHeld HS2
            go_wp2_with fail
            go_roundw
            case rel => exact ⟨k + 1, by omega, by go_num, X3⟩
            case measure => simp [RowKit.intOf]; omega
        · obtain rfl : k = n := by omega
          have iw : IntKind.i64.wrap ((i : Int) + 1) = (i : Int) + 1 := by rw [IntKind.wrap_i64]; omega
          have HRE := Lib.hid (reaches_any _ _ ws i _ (grpW ws) (fun j => findP (grpW ws) ((j : Int) + 1)) (HW.out.later hG2) (HG.out.later hG2) (fun j t h => HM.out.id j t h) HM.out.len (by rw [HN.out]; omega)
            (fun j W u hj hu => made_find u HM.out hj _ rfl W hu) (fun j hj => by
              have e1 := HM.out.ids hj
              have e2 := HM.out.ids (i := i) (by rw [HN.out]; omega)
              have := HM.out.same (i := i) (j := j) (by rw [HN.out]; omega) hj
              rw [e1, e2] at this
              rw [← this]
              exact eq_comm))
          go_wp2_with fail
          refine HRE.out.mono ?_
          rintro e wq ⟨rfl, B3⟩
          have hG3 := hG2.trans (B3.mono hG2.size)
          clear hG2 B3 HRE
          go_wp2_with fail
          go_roundw
          case rel => exact ⟨i + 1, by omega, by go_num, hG3⟩
          case measure => simp [RowKit.intOf]; omega
    · obtain rfl : i = n := by omega
      have BB := HB.out.trans (hG.mono HB.out.size)
      go_wp2_with fail
      go_ret
      exact ⟨rfl, BB⟩

end Go.Proofs.YtoaldbjcpfkcjaaGreat
