/- reaches. -/
import Derived.Test.YtoaldbjcpfkcjaaGreatqRa
import Derived.Test.YtoaldbjcpfkcjaaGreatqCf
import Derived.Laws.OwnMore
namespace Go.Proofs.YtoaldbjcpfkcjaaGreat
open Go.RowKit Go.Lib

theorem info4b : (Tryz.prog.info? 4).map (fun i => (i.zero, i.size, i.bytes)) = some (some (.bool false), 1, 1) := by kernel_rfl
theorem make52 (n : Nat) (hn : n ≤ 6) (w : World) : (Instr.makeSlice 52 (.int .i64 (n : Int)) (.int .i64 (n : Int))).run Tryz.prog w = .ok (.slice (some ⟨w.heap.size, 0, none⟩) n n) (w.alloc (.cells (Array.replicate n (.bool false)) 4)) := by
  obtain ⟨i, hi, hz0, hz1, hz2⟩ := info_parts info4b
  have h := run_make (P := Tryz.prog) w 52 4 i _ Tryz.underlying52 hi hz0 .i64 .i64 n n (by omega) (Int.le_refl _) (by rw [hz2]; omega) (by omega)
  simp only [Int.toNat_natCast] at h
  have e : madeCells (Value.bool false).cells (n * 1) = Array.replicate n (.bool false) := by
    apply Array.toList_inj.1
    rw [Nat.mul_one, Array.toList_replicate]
    exact toList_madeCells_one _ n
  rw [h, hz1, e]
set_option linter.unusedSimpArgs false in
set_option maxRecDepth 100000 in
set_option maxHeartbeats 4000000 in
theorem reaches_any (v g : Value) (ws : List Wy) (f : Nat) (w : World) (gs : List (List Int)) (F : Nat → Int) (RW : RowW w v ws) (RG : RowG w g gs) (hid : ∀ (i : Nat) (t : Wy), ws[i]? = some t → t.id = (i : Int) + 1) (h6 : ws.length ≤ 6) (hf : f < ws.length)
    (hF : ∀ (i : Nat) (W : World) (u : Value), i < ws.length → RowG W u gs → Calls Tryz.prog 25 #[u, .int .i64 ((i : Int) + 1)] W fun e w' => e = .returned (.int .i64 (F i)) ∧ W = w') (hS : ∀ k, k < ws.length → (F k = F f ↔ CC ws f k = true)) :
    Calls Tryz.prog 26 #[v, g, .int .i64 f] w fun e w' => e = .returned (.bool true) ∧ Below w.heap.size w w' := by
  obtain ⟨wa, n, wc, rfl, hn, hc1, hc2, RW⟩ := RW.form
  obtain ⟨ga, gn, gc, rfl, hgn, hg1, hg2, RG⟩ := RG.form
  have HI := Lib.hid hid
  have HF := Lib.hid hF
  have HS := Lib.hid hS
  have HN := Lib.hid hn
  have HG := Lib.hid RG
  have HW := Lib.hid RW
  have hn6 : n ≤ 6 := by omega
  have hfn : f < n := by omega
  clear hid hF hS hn hgn RG RW hg1 h6 hf
  have w1 : IntKind.i64.wrap (n : Int) = n := by rw [IntKind.wrap_i64]; omega
  go_enter Tryz.func26, Tryz.ntmps26
  have hmk := make52 n hn6 w
  have b1 : (f : Int) < n := by omega
  have b2 : (0 : Int) ≤ f := by omega
  go_upto_region 3 with fail
  clear hmk
  obtain ⟨S1, hS1⟩ : ∃ S1, (List.replicate n false).set f true = S1 := ⟨_, rfl⟩
  have C1 := (Has.nil (Below.refl w.heap.size w)).push (S1.map Value.bool) 4
  have e1 : (Array.replicate n (Value.bool false)).setIfInBounds f (Value.bool true) = (S1.map Value.bool).toArray := by rw [← hS1, List.map_set, List.map_replicate, ← List.setIfInBounds_toArray, List.toArray_replicate]
  rw [e1]
  generalize w.alloc (.cells (S1.map Value.bool).toArray 4) = w3 at *
  obtain ⟨B, hB⟩ : ∃ B, w.heap.size = B := ⟨_, rfl⟩
  rw [hB] at C1
  simp only [hB]
  clear e1
  have H1 := Lib.hid (show S1.length = n ∧ S1[f]? = some true ∧ (∀ j : Nat, S1[j]? = some true → Conn (JJ ws) f j) ∧ (ClosedB (JJ ws) S1 ∨ 0 + 1 ≤ S1.count true) by
    have e : S1[f]? = some true := by rw [← hS1, List.getElem?_set_self (by simp; exact hfn)]
    refine ⟨by rw [← hS1]; simp, e, fun j hj => ?_, .inr (List.count_pos_iff.2 (List.mem_of_getElem? e))⟩
    by_cases h : j = f
    · subst h; exact .refl j
    · rw [← hS1, List.getElem?_set_ne (Ne.symm h), List.getElem?_replicate] at hj
      split at hj <;> cases hj)
  clear hS1
  go_wp2_with fail
  go_loopw [8] (fun r W => ∃ (q : Nat) (S : List Bool), q ≤ n ∧ r = .int .i64 q ∧ Hid (S.length = n ∧ S[f]? = some true ∧ (∀ j : Nat, S[j]? = some true → Conn (JJ ws) f j) ∧ (ClosedB (JJ ws) S ∨ q + 1 ≤ S.count true)) ∧ Has w [(B, S.map Value.bool)] W) (fun r _ => n - (RowKit.intOf r).toNat)
  case atStart => exact ⟨0, S1, Nat.zero_le _, rfl, H1, C1⟩
  case round =>
    clear C1 H1
    obtain ⟨q, S, hq, rfl, HS0, hI⟩ := hrel
    by_cases hqn : q < n
    · have b3 : (q : Int) < n := by omega
      go_wp2_with fail
      go_loopw [9] (fun r W => ∃ (i : Nat) (S2 : List Bool), i ≤ n ∧ r = .int .i64 i ∧ Hid (Rnd (JJ ws) f n S S2 i 0) ∧ Has w [(B, S2.map Value.bool)] W) (fun r _ => n - (RowKit.intOf r).toNat)
      case atStart => exact ⟨0, S, Nat.zero_le _, rfl, Lib.hid (Rnd.start HS0.out.1 HS0.out.2.2.1), hI⟩
      case round =>
        clear hI
        obtain ⟨i, S1, hi, rfl, HR1, hI1⟩ := hrel
        by_cases hin : i < n
        · have b4 : (i : Int) < n := by omega
          have b5 : (0 : Int) ≤ i := by omega
          obtain ⟨bb, oo, rfl, hcell⟩ := HW.out.spot (by rw [HN.out]; omega)
          obtain ⟨ti, hti⟩ : ∃ t, ws[i]? = some t := ⟨_, List.getElem?_eq_getElem (by rw [HN.out]; omega)⟩
          obtain ⟨ui, ri, ai⟩ := hcell i ti hti
          have HTI := Lib.hid hti
          have RI := Lib.hid ri
          obtain ⟨a0, a1, a2, a3, a4, a5, a6, a7⟩ := ai
          replace a0 := Lib.hid a0; replace a1 := Lib.hid a1; replace a2 := Lib.hid a2; replace a3 := Lib.hid a3; replace a4 := Lib.hid a4; replace a5 := Lib.hid a5; replace a6 := Lib.hid a6; replace a7 := Lib.hid a7
          have HCELL := Lib.hid hcell
          clear hti ri hcell
          go_wp2_with fail
          go_loopw [10] (fun r W => ∃ (k : Nat) (S2 : List Bool), k ≤ n ∧ r = .int .i64 k ∧ Hid (Rnd (JJ ws) f n S S2 i k) ∧ Has w [(B, S2.map Value.bool)] W) (fun r _ => n - (RowKit.intOf r).toNat)
          case atStart => exact ⟨0, S1, Nat.zero_le _, rfl, HR1, hI1⟩
          case round =>
            clear hI1 HR1
            obtain ⟨k, S2, hk, rfl, HR2, hI2⟩ := hrel
            by_cases hkn : k < n
            · have b6 : (k : Int) < n := by omega
              have b7 : (0 : Int) ≤ k := by omega
              obtain ⟨tk, htk⟩ : ∃ t, ws[k]? = some t := ⟨_, List.getElem?_eq_getElem (by rw [HN.out]; omega)⟩
              obtain ⟨uk, rk, bk⟩ := HCELL.out k tk htk
              have RK := Lib.hid rk
              obtain ⟨b0', b1', b2', b3', b4', b5', b6', b7'⟩ := bk
              have HBK := Lib.hid (And.intro b0' (And.intro b1' (And.intro b2' (And.intro b3' (And.intro b4' (And.intro b5' (And.intro b6' b7')))))))
              obtain ⟨jb, hjb⟩ : ∃ jb, joinP ti tk = jb := ⟨_, rfl⟩
              have HJ := Lib.hid hjb
              have HJJ := Lib.hid (show JJ ws i k = jb by rw [JJ_some HTI.out htk]; exact hjb)
              clear htk rk b0' b1' b2' b3' b4' b5' b6' b7' hjb
              obtain ⟨sk, hsk⟩ : ∃ s, S2[k]? = some s := ⟨_, List.getElem?_eq_getElem (by rw [HR2.out.len]; omega)⟩
              obtain ⟨si, hsi⟩ : ∃ s, S2[i]? = some s := ⟨_, List.getElem?_eq_getElem (by rw [HR2.out.len]; omega)⟩
              have HKL := Lib.hid (show k < S2.length by rw [HR2.out.len]; omega)
              cases sk
              · cases si
                · have HK0 := Lib.hid hsk
                  have HI0 := Lib.hid hsi
                  have HMK := Lib.hid (show (S2.map Value.bool)[k]? = some (.bool false) by rw [List.getElem?_map, hsk]; rfl)
                  have HMI := Lib.hid (show (S2.map Value.bool)[i]? = some (.bool false) by rw [List.getElem?_map, hsi]; rfl)
                  clear hsk hsi
                  have HS2 := Lib.hid (show ∀ w', Has w [(B, S2.map Value.bool)] w' → (w'.cell? ⟨B, k, none⟩ = some (.bool false) ∧ w'.cell? ⟨B, i, none⟩ = some (.bool false) ∧ w'.cell? ⟨bb, oo + i * 8, none⟩ = some (.int .i64 ti.id) ∧ w'.cell? ⟨bb, oo + i * 8 + 1, none⟩ = some (ui) ∧ w'.cell? ⟨bb, oo + i * 8 + 2, none⟩ = some (.int .i64 ti.lv) ∧ w'.cell? ⟨bb, oo + i * 8 + 3, none⟩ = some (.string ti.cl) ∧ w'.cell? ⟨bb, oo + i * 8 + 4, none⟩ = some (.string ti.nm) ∧ w'.cell? ⟨bb, oo + i * 8 + 5, none⟩ = some (.bool ti.st) ∧ w'.cell? ⟨bb, oo + i * 8 + 6, none⟩ = some (.int .i64 ti.wt) ∧ w'.cell? ⟨bb, oo + i * 8 + 7, none⟩ = some (.int .i64 ti.ds) ∧ w'.cell? ⟨bb, oo + k * 8, none⟩ = some (.int .i64 tk.id) ∧ w'.cell? ⟨bb, oo + k * 8 + 1, none⟩ = some (uk) ∧ w'.cell? ⟨bb, oo + k * 8 + 2, none⟩ = some (.int .i64 tk.lv) ∧ w'.cell? ⟨bb, oo + k * 8 + 3, none⟩ = some (.string tk.cl) ∧ w'.cell? ⟨bb, oo + k * 8 + 4, none⟩ = some (.string tk.nm) ∧ w'.cell? ⟨bb, oo + k * 8 + 5, none⟩ = some (.bool tk.st) ∧ w'.cell? ⟨bb, oo + k * 8 + 6, none⟩ = some (.int .i64 tk.wt) ∧ w'.cell? ⟨bb, oo + k * 8 + 7, none⟩ = some (.int .i64 tk.ds)) ∧ Has w [(B, S2.map Value.bool)] w' from fun w' h => ⟨⟨h.fact (.head _) (i := k) (HMK.out), h.fact (.head _) (i := i) (HMI.out), (h.low.cell (World.block_lt_of_cell? w _ a0.out)).trans a0.out, (h.low.cell (World.block_lt_of_cell? w _ a1.out)).trans a1.out, (h.low.cell (World.block_lt_of_cell? w _ a2.out)).trans a2.out, (h.low.cell (World.block_lt_of_cell? w _ a3.out)).trans a3.out, (h.low.cell (World.block_lt_of_cell? w _ a4.out)).trans a4.out, (h.low.cell (World.block_lt_of_cell? w _ a5.out)).trans a5.out, (h.low.cell (World.block_lt_of_cell? w _ a6.out)).trans a6.out, (h.low.cell (World.block_lt_of_cell? w _ a7.out)).trans a7.out, (h.low.cell (World.block_lt_of_cell? w _ HBK.out.1)).trans HBK.out.1, (h.low.cell (World.block_lt_of_cell? w _ HBK.out.2.1)).trans HBK.out.2.1, (h.low.cell (World.block_lt_of_cell? w _ HBK.out.2.2.1)).trans HBK.out.2.2.1, (h.low.cell (World.block_lt_of_cell? w _ HBK.out.2.2.2.1)).trans HBK.out.2.2.2.1, (h.low.cell (World.block_lt_of_cell? w _ HBK.out.2.2.2.2.1)).trans HBK.out.2.2.2.2.1, (h.low.cell (World.block_lt_of_cell? w _ HBK.out.2.2.2.2.2.1)).trans HBK.out.2.2.2.2.2.1, (h.low.cell (World.block_lt_of_cell? w _ HBK.out.2.2.2.2.2.2.1)).trans HBK.out.2.2.2.2.2.2.1, (h.low.cell (World.block_lt_of_cell? w _ HBK.out.2.2.2.2.2.2.2)).trans HBK.out.2.2.2.2.2.2.2⟩, h⟩)
                  go_upto_region 12 with fail
                  refine plain_Z 24 (fun w' => (w'.cell? ⟨B, k, none⟩ = some (.bool false) ∧ w'.cell? ⟨B, i, none⟩ = some (.bool false) ∧ w'.cell? ⟨bb, oo + i * 8, none⟩ = some (.int .i64 ti.id) ∧ w'.cell? ⟨bb, oo + i * 8 + 1, none⟩ = some (ui) ∧ w'.cell? ⟨bb, oo + i * 8 + 2, none⟩ = some (.int .i64 ti.lv) ∧ w'.cell? ⟨bb, oo + i * 8 + 3, none⟩ = some (.string ti.cl) ∧ w'.cell? ⟨bb, oo + i * 8 + 4, none⟩ = some (.string ti.nm) ∧ w'.cell? ⟨bb, oo + i * 8 + 5, none⟩ = some (.bool ti.st) ∧ w'.cell? ⟨bb, oo + i * 8 + 6, none⟩ = some (.int .i64 ti.wt) ∧ w'.cell? ⟨bb, oo + i * 8 + 7, none⟩ = some (.int .i64 ti.ds) ∧ w'.cell? ⟨bb, oo + k * 8, none⟩ = some (.int .i64 tk.id) ∧ w'.cell? ⟨bb, oo + k * 8 + 1, none⟩ = some (uk) ∧ w'.cell? ⟨bb, oo + k * 8 + 2, none⟩ = some (.int .i64 tk.lv) ∧ w'.cell? ⟨bb, oo + k * 8 + 3, none⟩ = some (.string tk.cl) ∧ w'.cell? ⟨bb, oo + k * 8 + 4, none⟩ = some (.string tk.nm) ∧ w'.cell? ⟨bb, oo + k * 8 + 5, none⟩ = some (.bool tk.st) ∧ w'.cell? ⟨bb, oo + k * 8 + 6, none⟩ = some (.int .i64 tk.wt) ∧ w'.cell? ⟨bb, oo + k * 8 + 7, none⟩ = some (.int .i64 tk.ds)) ∧ Has w [(B, S2.map Value.bool)] w') (by kernel_rfl) ?_
                  have X0 := hI2.drew
                  have hHeld := HS2.out _ X0
                  generalize wr.drew = w5 at *
                  clear hI2
                  refine wpAnyZ_take (i := 0) (oi := ⟨some 36, Op.move (Operand.tmp 7), 52, _, _, none⟩) (oz := ⟨none, Op.store 4 (Operand.tmp 59) (Operand.tmp 58), 0, _, _, none⟩) (v := .slice (some ⟨B, 0, none⟩) n n) rfl rfl (by kernel_rfl) (fun _ _ _ h => h) (by rfl) (by assumption) (fun wS hSw => ?_) ?_
                  · (try dsimp only at hSw); go_simp
                  simp only [Act.put, List.setIfInBounds_toArray, List.set_cons_zero, List.set_cons_succ]
                  refine wpAnyZ_take (i := 1) (oi := ⟨some 37, Op.move (Operand.tmp 10), 3, _, _, none⟩) (oz := ⟨none, Op.store 4 (Operand.tmp 59) (Operand.tmp 58), 0, _, _, none⟩) (v := .int .i64 k) rfl rfl (by kernel_rfl) (fun _ _ _ h => h) (by rfl) (by assumption) (fun wS hSw => ?_) ?_
                  · (try dsimp only at hSw); go_simp
                  simp only [Act.put, List.setIfInBounds_toArray, List.set_cons_zero, List.set_cons_succ]
                  refine wpAnyZ_take (i := 2) (oi := ⟨some 38, Op.move (Operand.tmp 7), 52, _, _, none⟩) (oz := ⟨none, Op.store 4 (Operand.tmp 59) (Operand.tmp 58), 0, _, _, none⟩) (v := .slice (some ⟨B, 0, none⟩) n n) rfl rfl (by kernel_rfl) (fun _ _ _ h => h) (by rfl) (by assumption) (fun wS hSw => ?_) ?_
                  · (try dsimp only at hSw); go_simp
                  simp only [Act.put, List.setIfInBounds_toArray, List.set_cons_zero, List.set_cons_succ]
                  refine wpAnyZ_take (i := 3) (oi := ⟨some 39, Op.move (Operand.tmp 10), 3, _, _, none⟩) (oz := ⟨none, Op.store 4 (Operand.tmp 59) (Operand.tmp 58), 0, _, _, none⟩) (v := .int .i64 k) rfl rfl (by kernel_rfl) (fun _ _ _ h => h) (by rfl) (by assumption) (fun wS hSw => ?_) ?_
                  · (try dsimp only at hSw); go_simp
                  simp only [Act.put, List.setIfInBounds_toArray, List.set_cons_zero, List.set_cons_succ]
                  refine wpAnyZ_take (i := 4) (oi := ⟨some 40, Op.indexAddr 52 (Operand.tmp 38) (Operand.tmp 39), 0, _, _, none⟩) (oz := ⟨none, Op.store 4 (Operand.tmp 59) (Operand.tmp 58), 0, _, _, none⟩) (v := .pointer (some ⟨B, k, none⟩)) rfl rfl (by kernel_rfl) (fun _ _ _ h => h) (by rfl) (by assumption) (fun wS hSw => ?_) ?_
                  · (try dsimp only at hSw); go_simp
                  simp only [Act.put, List.setIfInBounds_toArray, List.set_cons_zero, List.set_cons_succ]
                  refine wpAnyZ_take (i := 5) (oi := ⟨some 41, Op.load 4 (Operand.tmp 40), 4, _, _, none⟩) (oz := ⟨none, Op.store 4 (Operand.tmp 59) (Operand.tmp 58), 0, _, _, none⟩) (v := .bool false) rfl rfl (by kernel_rfl) (fun _ _ _ h => h) (by rfl) (by assumption) (fun wS hSw => ?_) ?_
                  · (try dsimp only at hSw); go_simp
                  simp only [Act.put, List.setIfInBounds_toArray, List.set_cons_zero, List.set_cons_succ]
                  refine wpAnyZ_take (i := 6) (oi := ⟨some 42, Op.move (Operand.tmp 41), 4, _, _, none⟩) (oz := ⟨none, Op.store 4 (Operand.tmp 59) (Operand.tmp 58), 0, _, _, none⟩) (v := .bool false) rfl rfl (by kernel_rfl) (fun _ _ _ h => h) (by rfl) (by assumption) (fun wS hSw => ?_) ?_
                  · (try dsimp only at hSw); go_simp
                  simp only [Act.put, List.setIfInBounds_toArray, List.set_cons_zero, List.set_cons_succ]
                  refine wpAnyZ_listed #[true, true, true, true, true, true, true, false, false, false, false, false, false, false, false, false, false, false, false, false, false, false, false, false, false] (by kernel_rfl) ?_
                  refine wpAnyZ_take (i := 7) (oi := ⟨some 43, Op.move (Operand.tmp 7), 52, _, _, some (6, false)⟩) (oz := ⟨none, Op.store 4 (Operand.tmp 59) (Operand.tmp 58), 0, _, _, none⟩) (v := .slice (some ⟨B, 0, none⟩) n n) rfl rfl (by kernel_rfl) (fun _ _ _ h => h) (by rfl) (by assumption) (fun wS hSw => ?_) ?_
                  · (try dsimp only at hSw); go_simp
                  simp only [Act.put, List.setIfInBounds_toArray, List.set_cons_zero, List.set_cons_succ]
                  refine wpAnyZ_take (i := 8) (oi := ⟨some 44, Op.move (Operand.tmp 9), 3, _, _, some (6, false)⟩) (oz := ⟨none, Op.store 4 (Operand.tmp 59) (Operand.tmp 58), 0, _, _, none⟩) (v := .int .i64 i) rfl rfl (by kernel_rfl) (fun _ _ _ h => h) (by rfl) (by assumption) (fun wS hSw => ?_) ?_
                  · (try dsimp only at hSw); go_simp
                  simp only [Act.put, List.setIfInBounds_toArray, List.set_cons_zero, List.set_cons_succ]
                  refine wpAnyZ_take (i := 9) (oi := ⟨some 45, Op.indexAddr 52 (Operand.tmp 43) (Operand.tmp 44), 0, _, _, some (6, false)⟩) (oz := ⟨none, Op.store 4 (Operand.tmp 59) (Operand.tmp 58), 0, _, _, none⟩) (v := .pointer (some ⟨B, i, none⟩)) rfl rfl (by kernel_rfl) (fun _ _ _ h => h) (by rfl) (by assumption) (fun wS hSw => ?_) ?_
                  · (try dsimp only at hSw); go_simp
                  simp only [Act.put, List.setIfInBounds_toArray, List.set_cons_zero, List.set_cons_succ]
                  refine wpAnyZ_take (i := 10) (oi := ⟨some 46, Op.load 4 (Operand.tmp 45), 4, _, _, some (6, false)⟩) (oz := ⟨none, Op.store 4 (Operand.tmp 59) (Operand.tmp 58), 0, _, _, none⟩) (v := .bool false) rfl rfl (by kernel_rfl) (fun _ _ _ h => h) (by rfl) (by assumption) (fun wS hSw => ?_) ?_
                  · (try dsimp only at hSw); go_simp
                  simp only [Act.put, List.setIfInBounds_toArray, List.set_cons_zero, List.set_cons_succ]
                  refine wpAnyZ_take (i := 11) (oi := ⟨some 47, Op.move (Operand.tmp 46), 4, _, _, some (6, false)⟩) (oz := ⟨none, Op.store 4 (Operand.tmp 59) (Operand.tmp 58), 0, _, _, none⟩) (v := .bool false) rfl rfl (by kernel_rfl) (fun _ _ _ h => h) (by rfl) (by assumption) (fun wS hSw => ?_) ?_
                  · (try dsimp only at hSw); go_simp
                  simp only [Act.put, List.setIfInBounds_toArray, List.set_cons_zero, List.set_cons_succ]
                  refine wpAnyZ_listed #[true, true, true, true, true, true, true, true, true, true, true, true, false, false, false, false, false, false, false, false, false, false, false, false, false] (by kernel_rfl) ?_
                  refine wpAnyZ_skip (i := 12) (oi := ⟨some 48, Op.move (Operand.tmp 0), 23, _, _, some (11, true)⟩) (oz := ⟨none, Op.store 4 (Operand.tmp 59) (Operand.tmp 58), 0, _, _, none⟩) rfl rfl (by kernel_rfl) (fun _ _ _ h => h) (by rfl) (by assumption) ?_
                  simp only [Act.put, List.setIfInBounds_toArray, List.set_cons_zero, List.set_cons_succ]
                  refine wpAnyZ_skip (i := 13) (oi := ⟨some 49, Op.move (Operand.tmp 9), 3, _, _, some (11, true)⟩) (oz := ⟨none, Op.store 4 (Operand.tmp 59) (Operand.tmp 58), 0, _, _, none⟩) rfl rfl (by kernel_rfl) (fun _ _ _ h => h) (by rfl) (by assumption) ?_
                  simp only [Act.put, List.setIfInBounds_toArray, List.set_cons_zero, List.set_cons_succ]
                  refine wpAnyZ_skip (i := 14) (oi := ⟨some 50, Op.indexAddr 23 (Operand.tmp 48) (Operand.tmp 49), 0, _, _, some (11, true)⟩) (oz := ⟨none, Op.store 4 (Operand.tmp 59) (Operand.tmp 58), 0, _, _, none⟩) rfl rfl (by kernel_rfl) (fun _ _ _ h => h) (by rfl) (by assumption) ?_
                  simp only [Act.put, List.setIfInBounds_toArray, List.set_cons_zero, List.set_cons_succ]
                  refine wpAnyZ_skip (i := 15) (oi := ⟨some 51, Op.load 44 (Operand.tmp 50), 44, _, _, some (11, true)⟩) (oz := ⟨none, Op.store 4 (Operand.tmp 59) (Operand.tmp 58), 0, _, _, none⟩) rfl rfl (by kernel_rfl) (fun _ _ _ h => h) (by rfl) (by assumption) ?_
                  simp only [Act.put, List.setIfInBounds_toArray, List.set_cons_zero, List.set_cons_succ]
                  refine wpAnyZ_skip (i := 16) (oi := ⟨some 52, Op.move (Operand.tmp 0), 23, _, _, some (11, true)⟩) (oz := ⟨none, Op.store 4 (Operand.tmp 59) (Operand.tmp 58), 0, _, _, none⟩) rfl rfl (by kernel_rfl) (fun _ _ _ h => h) (by rfl) (by assumption) ?_
                  simp only [Act.put, List.setIfInBounds_toArray, List.set_cons_zero, List.set_cons_succ]
                  refine wpAnyZ_skip (i := 17) (oi := ⟨some 53, Op.move (Operand.tmp 10), 3, _, _, some (11, true)⟩) (oz := ⟨none, Op.store 4 (Operand.tmp 59) (Operand.tmp 58), 0, _, _, none⟩) rfl rfl (by kernel_rfl) (fun _ _ _ h => h) (by rfl) (by assumption) ?_
                  simp only [Act.put, List.setIfInBounds_toArray, List.set_cons_zero, List.set_cons_succ]
                  refine wpAnyZ_skip (i := 18) (oi := ⟨some 54, Op.indexAddr 23 (Operand.tmp 52) (Operand.tmp 53), 0, _, _, some (11, true)⟩) (oz := ⟨none, Op.store 4 (Operand.tmp 59) (Operand.tmp 58), 0, _, _, none⟩) rfl rfl (by kernel_rfl) (fun _ _ _ h => h) (by rfl) (by assumption) ?_
                  simp only [Act.put, List.setIfInBounds_toArray, List.set_cons_zero, List.set_cons_succ]
                  refine wpAnyZ_skip (i := 19) (oi := ⟨some 55, Op.load 44 (Operand.tmp 54), 44, _, _, some (11, true)⟩) (oz := ⟨none, Op.store 4 (Operand.tmp 59) (Operand.tmp 58), 0, _, _, none⟩) rfl rfl (by kernel_rfl) (fun _ _ _ h => h) (by rfl) (by assumption) ?_
                  simp only [Act.put, List.setIfInBounds_toArray, List.set_cons_zero, List.set_cons_succ]
                  refine wpAnyZ_skip (i := 20) (oi := ⟨some 56, Op.call { callee := Callee.value (Operand.func 20), args := #[Operand.tmp 51, Operand.tmp 55], argTypes := #[44, 44] }, 4, _, _, some (11, true)⟩) (oz := ⟨none, Op.store 4 (Operand.tmp 59) (Operand.tmp 58), 0, _, _, none⟩) rfl rfl (by kernel_rfl) (fun _ _ _ h => h) (by rfl) (by assumption) ?_
                  simp only [Act.put, List.setIfInBounds_toArray, List.set_cons_zero, List.set_cons_succ]
                  refine wpAnyZ_listed #[true, true, true, true, true, true, true, true, true, true, true, true, true, true, true, true, true, true, true, true, true, false, false, false, false] (by kernel_rfl) ?_
                  refine wpAnyZ_take (i := 21) (oi := ⟨some 57, Op.pick (Operand.tmp 47) (Operand.tmp 56) (Operand.const (Value.bool false)), 4, _, _, some (6, false)⟩) (oz := ⟨none, Op.store 4 (Operand.tmp 59) (Operand.tmp 58), 0, _, _, none⟩) (v := .bool false) rfl rfl (by kernel_rfl) (fun _ _ _ h => h) (by rfl) (by assumption) (fun wS hSw => ?_) ?_
                  · (try dsimp only at hSw); go_simp
                  simp only [Act.put, List.setIfInBounds_toArray, List.set_cons_zero, List.set_cons_succ]
                  refine wpAnyZ_listed #[true, true, true, true, true, true, true, true, true, true, true, true, true, true, true, true, true, true, true, true, true, true, false, false, false] (by kernel_rfl) ?_
                  refine wpAnyZ_take (i := 22) (oi := ⟨some 58, Op.pick (Operand.tmp 42) (Operand.const (Value.bool true)) (Operand.tmp 57), 4, _, _, none⟩) (oz := ⟨none, Op.store 4 (Operand.tmp 59) (Operand.tmp 58), 0, _, _, none⟩) (v := .bool false) rfl rfl (by kernel_rfl) (fun _ _ _ h => h) (by rfl) (by assumption) (fun wS hSw => ?_) ?_
                  · (try dsimp only at hSw); go_simp
                  simp only [Act.put, List.setIfInBounds_toArray, List.set_cons_zero, List.set_cons_succ]
                  refine wpAnyZ_take (i := 23) (oi := ⟨some 59, Op.indexAddr 52 (Operand.tmp 36) (Operand.tmp 37), 0, _, _, none⟩) (oz := ⟨none, Op.store 4 (Operand.tmp 59) (Operand.tmp 58), 0, _, _, none⟩) (v := .pointer (some ⟨B, k, none⟩)) rfl rfl (by kernel_rfl) (fun _ _ _ h => h) (by rfl) (by assumption) (fun wS hSw => ?_) ?_
                  · (try dsimp only at hSw); go_simp
                  simp only [Act.put, List.setIfInBounds_toArray, List.set_cons_zero, List.set_cons_succ]
                  refine wpAnyZ_listed #[true, true, true, true, true, true, true, true, true, true, true, true, true, true, true, true, true, true, true, true, true, true, true, true, false] (by kernel_rfl) ?_
                  refine wpAnyZ_step (o := ⟨none, Op.store 4 (Operand.tmp 59) (Operand.tmp 58), 0, _, _, none⟩) (by kernel_rfl) (by decide) rfl (fun K hK => ?_)
                  have k1 := X0.fact (.head _) (i := k) HMK.out
                  have f1 := X0.free (.head _) (i := k) HMK.out
                  go_simp
                  have XE := X0.set k (by rw [List.length_map]; exact HKL.out) (.bool false)
                  rw [← List.map_set] at XE
                  generalize World.setCell w5 ⟨B, k, none⟩ (.bool false) = wE at *
                  clear k1 f1 X0
                  try clear hHeld
                  refine hK.out _ _ ?_
                  clear hK K
                  try simp only [List.setIfInBounds_toArray, List.set_cons_zero, List.set_cons_succ]
                  refine wpAnyH_listed #[true, true, true, true, true, true, true, true, true, true, true, true, true, true, true, true, true, true, true, true, true, true, true, true, true] (by kernel_rfl) ?_
                  have hHeld := True.intro
                  refine wpAnyH_done (by kernel_rfl) ?_ _
                  refine Calm.normal ?_
                  clear hHeld HS2
                  go_wp2_with fail
                  go_roundw
                  case rel => exact ⟨k + 1, _, by omega, by go_num, Lib.hid (HR2.out.step HK0.out HI0.out), XE⟩
                  case measure => simp [RowKit.intOf]; omega
                · have HK0 := Lib.hid hsk
                  have HI0 := Lib.hid hsi
                  have HMK := Lib.hid (show (S2.map Value.bool)[k]? = some (.bool false) by rw [List.getElem?_map, hsk]; rfl)
                  have HMI := Lib.hid (show (S2.map Value.bool)[i]? = some (.bool true) by rw [List.getElem?_map, hsi]; rfl)
                  clear hsk hsi
                  have HS2 := Lib.hid (show ∀ w', Has w [(B, S2.map Value.bool)] w' → (w'.cell? ⟨B, k, none⟩ = some (.bool false) ∧ w'.cell? ⟨B, i, none⟩ = some (.bool true) ∧ w'.cell? ⟨bb, oo + i * 8, none⟩ = some (.int .i64 ti.id) ∧ w'.cell? ⟨bb, oo + i * 8 + 1, none⟩ = some (ui) ∧ w'.cell? ⟨bb, oo + i * 8 + 2, none⟩ = some (.int .i64 ti.lv) ∧ w'.cell? ⟨bb, oo + i * 8 + 3, none⟩ = some (.string ti.cl) ∧ w'.cell? ⟨bb, oo + i * 8 + 4, none⟩ = some (.string ti.nm) ∧ w'.cell? ⟨bb, oo + i * 8 + 5, none⟩ = some (.bool ti.st) ∧ w'.cell? ⟨bb, oo + i * 8 + 6, none⟩ = some (.int .i64 ti.wt) ∧ w'.cell? ⟨bb, oo + i * 8 + 7, none⟩ = some (.int .i64 ti.ds) ∧ w'.cell? ⟨bb, oo + k * 8, none⟩ = some (.int .i64 tk.id) ∧ w'.cell? ⟨bb, oo + k * 8 + 1, none⟩ = some (uk) ∧ w'.cell? ⟨bb, oo + k * 8 + 2, none⟩ = some (.int .i64 tk.lv) ∧ w'.cell? ⟨bb, oo + k * 8 + 3, none⟩ = some (.string tk.cl) ∧ w'.cell? ⟨bb, oo + k * 8 + 4, none⟩ = some (.string tk.nm) ∧ w'.cell? ⟨bb, oo + k * 8 + 5, none⟩ = some (.bool tk.st) ∧ w'.cell? ⟨bb, oo + k * 8 + 6, none⟩ = some (.int .i64 tk.wt) ∧ w'.cell? ⟨bb, oo + k * 8 + 7, none⟩ = some (.int .i64 tk.ds)) ∧ Has w [(B, S2.map Value.bool)] w' from fun w' h => ⟨⟨h.fact (.head _) (i := k) (HMK.out), h.fact (.head _) (i := i) (HMI.out), (h.low.cell (World.block_lt_of_cell? w _ a0.out)).trans a0.out, (h.low.cell (World.block_lt_of_cell? w _ a1.out)).trans a1.out, (h.low.cell (World.block_lt_of_cell? w _ a2.out)).trans a2.out, (h.low.cell (World.block_lt_of_cell? w _ a3.out)).trans a3.out, (h.low.cell (World.block_lt_of_cell? w _ a4.out)).trans a4.out, (h.low.cell (World.block_lt_of_cell? w _ a5.out)).trans a5.out, (h.low.cell (World.block_lt_of_cell? w _ a6.out)).trans a6.out, (h.low.cell (World.block_lt_of_cell? w _ a7.out)).trans a7.out, (h.low.cell (World.block_lt_of_cell? w _ HBK.out.1)).trans HBK.out.1, (h.low.cell (World.block_lt_of_cell? w _ HBK.out.2.1)).trans HBK.out.2.1, (h.low.cell (World.block_lt_of_cell? w _ HBK.out.2.2.1)).trans HBK.out.2.2.1, (h.low.cell (World.block_lt_of_cell? w _ HBK.out.2.2.2.1)).trans HBK.out.2.2.2.1, (h.low.cell (World.block_lt_of_cell? w _ HBK.out.2.2.2.2.1)).trans HBK.out.2.2.2.2.1, (h.low.cell (World.block_lt_of_cell? w _ HBK.out.2.2.2.2.2.1)).trans HBK.out.2.2.2.2.2.1, (h.low.cell (World.block_lt_of_cell? w _ HBK.out.2.2.2.2.2.2.1)).trans HBK.out.2.2.2.2.2.2.1, (h.low.cell (World.block_lt_of_cell? w _ HBK.out.2.2.2.2.2.2.2)).trans HBK.out.2.2.2.2.2.2.2⟩, h⟩)
                  go_upto_region 12 with fail
                  refine plain_Z 24 (fun w' => (w'.cell? ⟨B, k, none⟩ = some (.bool false) ∧ w'.cell? ⟨B, i, none⟩ = some (.bool true) ∧ w'.cell? ⟨bb, oo + i * 8, none⟩ = some (.int .i64 ti.id) ∧ w'.cell? ⟨bb, oo + i * 8 + 1, none⟩ = some (ui) ∧ w'.cell? ⟨bb, oo + i * 8 + 2, none⟩ = some (.int .i64 ti.lv) ∧ w'.cell? ⟨bb, oo + i * 8 + 3, none⟩ = some (.string ti.cl) ∧ w'.cell? ⟨bb, oo + i * 8 + 4, none⟩ = some (.string ti.nm) ∧ w'.cell? ⟨bb, oo + i * 8 + 5, none⟩ = some (.bool ti.st) ∧ w'.cell? ⟨bb, oo + i * 8 + 6, none⟩ = some (.int .i64 ti.wt) ∧ w'.cell? ⟨bb, oo + i * 8 + 7, none⟩ = some (.int .i64 ti.ds) ∧ w'.cell? ⟨bb, oo + k * 8, none⟩ = some (.int .i64 tk.id) ∧ w'.cell? ⟨bb, oo + k * 8 + 1, none⟩ = some (uk) ∧ w'.cell? ⟨bb, oo + k * 8 + 2, none⟩ = some (.int .i64 tk.lv) ∧ w'.cell? ⟨bb, oo + k * 8 + 3, none⟩ = some (.string tk.cl) ∧ w'.cell? ⟨bb, oo + k * 8 + 4, none⟩ = some (.string tk.nm) ∧ w'.cell? ⟨bb, oo + k * 8 + 5, none⟩ = some (.bool tk.st) ∧ w'.cell? ⟨bb, oo + k * 8 + 6, none⟩ = some (.int .i64 tk.wt) ∧ w'.cell? ⟨bb, oo + k * 8 + 7, none⟩ = some (.int .i64 tk.ds)) ∧ Has w [(B, S2.map Value.bool)] w') (by kernel_rfl) ?_
                  have X0 := hI2.drew
                  have hHeld := HS2.out _ X0
                  generalize wr.drew = w5 at *
                  clear hI2
                  refine wpAnyZ_take (i := 0) (oi := ⟨some 36, Op.move (Operand.tmp 7), 52, _, _, none⟩) (oz := ⟨none, Op.store 4 (Operand.tmp 59) (Operand.tmp 58), 0, _, _, none⟩) (v := .slice (some ⟨B, 0, none⟩) n n) rfl rfl (by kernel_rfl) (fun _ _ _ h => h) (by rfl) (by assumption) (fun wS hSw => ?_) ?_
                  · (try dsimp only at hSw); go_simp
                  simp only [Act.put, List.setIfInBounds_toArray, List.set_cons_zero, List.set_cons_succ]
                  refine wpAnyZ_take (i := 1) (oi := ⟨some 37, Op.move (Operand.tmp 10), 3, _, _, none⟩) (oz := ⟨none, Op.store 4 (Operand.tmp 59) (Operand.tmp 58), 0, _, _, none⟩) (v := .int .i64 k) rfl rfl (by kernel_rfl) (fun _ _ _ h => h) (by rfl) (by assumption) (fun wS hSw => ?_) ?_
                  · (try dsimp only at hSw); go_simp
                  simp only [Act.put, List.setIfInBounds_toArray, List.set_cons_zero, List.set_cons_succ]
                  refine wpAnyZ_take (i := 2) (oi := ⟨some 38, Op.move (Operand.tmp 7), 52, _, _, none⟩) (oz := ⟨none, Op.store 4 (Operand.tmp 59) (Operand.tmp 58), 0, _, _, none⟩) (v := .slice (some ⟨B, 0, none⟩) n n) rfl rfl (by kernel_rfl) (fun _ _ _ h => h) (by rfl) (by assumption) (fun wS hSw => ?_) ?_
                  · (try dsimp only at hSw); go_simp
                  simp only [Act.put, List.setIfInBounds_toArray, List.set_cons_zero, List.set_cons_succ]
                  refine wpAnyZ_take (i := 3) (oi := ⟨some 39, Op.move (Operand.tmp 10), 3, _, _, none⟩) (oz := ⟨none, Op.store 4 (Operand.tmp 59) (Operand.tmp 58), 0, _, _, none⟩) (v := .int .i64 k) rfl rfl (by kernel_rfl) (fun _ _ _ h => h) (by rfl) (by assumption) (fun wS hSw => ?_) ?_
                  · (try dsimp only at hSw); go_simp
                  simp only [Act.put, List.setIfInBounds_toArray, List.set_cons_zero, List.set_cons_succ]
                  refine wpAnyZ_take (i := 4) (oi := ⟨some 40, Op.indexAddr 52 (Operand.tmp 38) (Operand.tmp 39), 0, _, _, none⟩) (oz := ⟨none, Op.store 4 (Operand.tmp 59) (Operand.tmp 58), 0, _, _, none⟩) (v := .pointer (some ⟨B, k, none⟩)) rfl rfl (by kernel_rfl) (fun _ _ _ h => h) (by rfl) (by assumption) (fun wS hSw => ?_) ?_
                  · (try dsimp only at hSw); go_simp
                  simp only [Act.put, List.setIfInBounds_toArray, List.set_cons_zero, List.set_cons_succ]
                  refine wpAnyZ_take (i := 5) (oi := ⟨some 41, Op.load 4 (Operand.tmp 40), 4, _, _, none⟩) (oz := ⟨none, Op.store 4 (Operand.tmp 59) (Operand.tmp 58), 0, _, _, none⟩) (v := .bool false) rfl rfl (by kernel_rfl) (fun _ _ _ h => h) (by rfl) (by assumption) (fun wS hSw => ?_) ?_
                  · (try dsimp only at hSw); go_simp
                  simp only [Act.put, List.setIfInBounds_toArray, List.set_cons_zero, List.set_cons_succ]
                  refine wpAnyZ_take (i := 6) (oi := ⟨some 42, Op.move (Operand.tmp 41), 4, _, _, none⟩) (oz := ⟨none, Op.store 4 (Operand.tmp 59) (Operand.tmp 58), 0, _, _, none⟩) (v := .bool false) rfl rfl (by kernel_rfl) (fun _ _ _ h => h) (by rfl) (by assumption) (fun wS hSw => ?_) ?_
                  · (try dsimp only at hSw); go_simp
                  simp only [Act.put, List.setIfInBounds_toArray, List.set_cons_zero, List.set_cons_succ]
                  refine wpAnyZ_listed #[true, true, true, true, true, true, true, false, false, false, false, false, false, false, false, false, false, false, false, false, false, false, false, false, false] (by kernel_rfl) ?_
                  refine wpAnyZ_take (i := 7) (oi := ⟨some 43, Op.move (Operand.tmp 7), 52, _, _, some (6, false)⟩) (oz := ⟨none, Op.store 4 (Operand.tmp 59) (Operand.tmp 58), 0, _, _, none⟩) (v := .slice (some ⟨B, 0, none⟩) n n) rfl rfl (by kernel_rfl) (fun _ _ _ h => h) (by rfl) (by assumption) (fun wS hSw => ?_) ?_
                  · (try dsimp only at hSw); go_simp
                  simp only [Act.put, List.setIfInBounds_toArray, List.set_cons_zero, List.set_cons_succ]
                  refine wpAnyZ_take (i := 8) (oi := ⟨some 44, Op.move (Operand.tmp 9), 3, _, _, some (6, false)⟩) (oz := ⟨none, Op.store 4 (Operand.tmp 59) (Operand.tmp 58), 0, _, _, none⟩) (v := .int .i64 i) rfl rfl (by kernel_rfl) (fun _ _ _ h => h) (by rfl) (by assumption) (fun wS hSw => ?_) ?_
                  · (try dsimp only at hSw); go_simp
                  simp only [Act.put, List.setIfInBounds_toArray, List.set_cons_zero, List.set_cons_succ]
                  refine wpAnyZ_take (i := 9) (oi := ⟨some 45, Op.indexAddr 52 (Operand.tmp 43) (Operand.tmp 44), 0, _, _, some (6, false)⟩) (oz := ⟨none, Op.store 4 (Operand.tmp 59) (Operand.tmp 58), 0, _, _, none⟩) (v := .pointer (some ⟨B, i, none⟩)) rfl rfl (by kernel_rfl) (fun _ _ _ h => h) (by rfl) (by assumption) (fun wS hSw => ?_) ?_
                  · (try dsimp only at hSw); go_simp
                  simp only [Act.put, List.setIfInBounds_toArray, List.set_cons_zero, List.set_cons_succ]
                  refine wpAnyZ_take (i := 10) (oi := ⟨some 46, Op.load 4 (Operand.tmp 45), 4, _, _, some (6, false)⟩) (oz := ⟨none, Op.store 4 (Operand.tmp 59) (Operand.tmp 58), 0, _, _, none⟩) (v := .bool true) rfl rfl (by kernel_rfl) (fun _ _ _ h => h) (by rfl) (by assumption) (fun wS hSw => ?_) ?_
                  · (try dsimp only at hSw); go_simp
                  simp only [Act.put, List.setIfInBounds_toArray, List.set_cons_zero, List.set_cons_succ]
                  refine wpAnyZ_take (i := 11) (oi := ⟨some 47, Op.move (Operand.tmp 46), 4, _, _, some (6, false)⟩) (oz := ⟨none, Op.store 4 (Operand.tmp 59) (Operand.tmp 58), 0, _, _, none⟩) (v := .bool true) rfl rfl (by kernel_rfl) (fun _ _ _ h => h) (by rfl) (by assumption) (fun wS hSw => ?_) ?_
                  · (try dsimp only at hSw); go_simp
                  simp only [Act.put, List.setIfInBounds_toArray, List.set_cons_zero, List.set_cons_succ]
                  refine wpAnyZ_listed #[true, true, true, true, true, true, true, true, true, true, true, true, false, false, false, false, false, false, false, false, false, false, false, false, false] (by kernel_rfl) ?_
                  refine wpAnyZ_take (i := 12) (oi := ⟨some 48, Op.move (Operand.tmp 0), 23, _, _, some (11, true)⟩) (oz := ⟨none, Op.store 4 (Operand.tmp 59) (Operand.tmp 58), 0, _, _, none⟩) (v := .slice (some ⟨bb, oo, none⟩) n wc) rfl rfl (by kernel_rfl) (fun _ _ _ h => h) (by rfl) (by assumption) (fun wS hSw => ?_) ?_
                  · (try dsimp only at hSw); go_simp
                  simp only [Act.put, List.setIfInBounds_toArray, List.set_cons_zero, List.set_cons_succ]
                  refine wpAnyZ_take (i := 13) (oi := ⟨some 49, Op.move (Operand.tmp 9), 3, _, _, some (11, true)⟩) (oz := ⟨none, Op.store 4 (Operand.tmp 59) (Operand.tmp 58), 0, _, _, none⟩) (v := .int .i64 i) rfl rfl (by kernel_rfl) (fun _ _ _ h => h) (by rfl) (by assumption) (fun wS hSw => ?_) ?_
                  · (try dsimp only at hSw); go_simp
                  simp only [Act.put, List.setIfInBounds_toArray, List.set_cons_zero, List.set_cons_succ]
                  refine wpAnyZ_take (i := 14) (oi := ⟨some 50, Op.indexAddr 23 (Operand.tmp 48) (Operand.tmp 49), 0, _, _, some (11, true)⟩) (oz := ⟨none, Op.store 4 (Operand.tmp 59) (Operand.tmp 58), 0, _, _, none⟩) (v := .pointer (some ⟨bb, oo + i * 8, none⟩)) rfl rfl (by kernel_rfl) (fun _ _ _ h => h) (by rfl) (by assumption) (fun wS hSw => ?_) ?_
                  · (try dsimp only at hSw); go_simp
                  simp only [Act.put, List.setIfInBounds_toArray, List.set_cons_zero, List.set_cons_succ]
                  refine wpAnyZ_take (i := 15) (oi := ⟨some 51, Op.load 44 (Operand.tmp 50), 44, _, _, some (11, true)⟩) (oz := ⟨none, Op.store 4 (Operand.tmp 59) (Operand.tmp 58), 0, _, _, none⟩) (v := .agg #[.int .i64 ti.id, ui, .int .i64 ti.lv, .string ti.cl, .string ti.nm, .bool ti.st, .int .i64 ti.wt, .int .i64 ti.ds]) rfl rfl (by kernel_rfl) (fun _ _ _ h => h) (by rfl) (by assumption) (fun wS hSw => ?_) ?_
                  · (try dsimp only at hSw); go_simp
                  simp only [Act.put, List.setIfInBounds_toArray, List.set_cons_zero, List.set_cons_succ]
                  refine wpAnyZ_take (i := 16) (oi := ⟨some 52, Op.move (Operand.tmp 0), 23, _, _, some (11, true)⟩) (oz := ⟨none, Op.store 4 (Operand.tmp 59) (Operand.tmp 58), 0, _, _, none⟩) (v := .slice (some ⟨bb, oo, none⟩) n wc) rfl rfl (by kernel_rfl) (fun _ _ _ h => h) (by rfl) (by assumption) (fun wS hSw => ?_) ?_
                  · (try dsimp only at hSw); go_simp
                  simp only [Act.put, List.setIfInBounds_toArray, List.set_cons_zero, List.set_cons_succ]
                  refine wpAnyZ_take (i := 17) (oi := ⟨some 53, Op.move (Operand.tmp 10), 3, _, _, some (11, true)⟩) (oz := ⟨none, Op.store 4 (Operand.tmp 59) (Operand.tmp 58), 0, _, _, none⟩) (v := .int .i64 k) rfl rfl (by kernel_rfl) (fun _ _ _ h => h) (by rfl) (by assumption) (fun wS hSw => ?_) ?_
                  · (try dsimp only at hSw); go_simp
                  simp only [Act.put, List.setIfInBounds_toArray, List.set_cons_zero, List.set_cons_succ]
                  refine wpAnyZ_take (i := 18) (oi := ⟨some 54, Op.indexAddr 23 (Operand.tmp 52) (Operand.tmp 53), 0, _, _, some (11, true)⟩) (oz := ⟨none, Op.store 4 (Operand.tmp 59) (Operand.tmp 58), 0, _, _, none⟩) (v := .pointer (some ⟨bb, oo + k * 8, none⟩)) rfl rfl (by kernel_rfl) (fun _ _ _ h => h) (by rfl) (by assumption) (fun wS hSw => ?_) ?_
                  · (try dsimp only at hSw); go_simp
                  simp only [Act.put, List.setIfInBounds_toArray, List.set_cons_zero, List.set_cons_succ]
                  refine wpAnyZ_take (i := 19) (oi := ⟨some 55, Op.load 44 (Operand.tmp 54), 44, _, _, some (11, true)⟩) (oz := ⟨none, Op.store 4 (Operand.tmp 59) (Operand.tmp 58), 0, _, _, none⟩) (v := .agg #[.int .i64 tk.id, uk, .int .i64 tk.lv, .string tk.cl, .string tk.nm, .bool tk.st, .int .i64 tk.wt, .int .i64 tk.ds]) rfl rfl (by kernel_rfl) (fun _ _ _ h => h) (by rfl) (by assumption) (fun wS hSw => ?_) ?_
                  · (try dsimp only at hSw); go_simp
                  simp only [Act.put, List.setIfInBounds_toArray, List.set_cons_zero, List.set_cons_succ]
                  refine wpAnyZ_listed #[true, true, true, true, true, true, true, true, true, true, true, true, true, true, true, true, true, true, true, true, false, false, false, false, false] (by kernel_rfl) ?_
                  refine wpAnyZ_one (i := 20) (o := ⟨some 56, Op.call { callee := Callee.value (Operand.func 20), args := #[Operand.tmp 51, Operand.tmp 55], argTypes := #[44, 44] }, 4, _, _, some (11, true)⟩) (by kernel_rfl) rfl (fun K hK => ?_)
                  go_simp
                  go_at_call 20
                  refine (Has.call X0 (joined_is ti tk ui uk jb HJ.out _ (RI.out.later X0.low) (RK.out.later X0.low))).mono ?_
                  rintro e w6 ⟨rfl, X1⟩
                  go_wp2_with fail
                  try clear hHeld
                  refine hK.out _ _ (HS2.out _ X1) (fun hHeld => ?_)
                  clear hK K
                  try simp only [List.setIfInBounds_toArray, List.set_cons_zero, List.set_cons_succ]
                  refine wpAnyZ_listed #[true, true, true, true, true, true, true, true, true, true, true, true, true, true, true, true, true, true, true, true, true, false, false, false, false] (by kernel_rfl) ?_
                  refine wpAnyZ_take (i := 21) (oi := ⟨some 57, Op.pick (Operand.tmp 47) (Operand.tmp 56) (Operand.const (Value.bool false)), 4, _, _, some (6, false)⟩) (oz := ⟨none, Op.store 4 (Operand.tmp 59) (Operand.tmp 58), 0, _, _, none⟩) (v := .bool jb) rfl rfl (by kernel_rfl) (fun _ _ _ h => h) (by rfl) (by assumption) (fun wS hSw => ?_) ?_
                  · (try dsimp only at hSw); go_simp
                  simp only [Act.put, List.setIfInBounds_toArray, List.set_cons_zero, List.set_cons_succ]
                  refine wpAnyZ_listed #[true, true, true, true, true, true, true, true, true, true, true, true, true, true, true, true, true, true, true, true, true, true, false, false, false] (by kernel_rfl) ?_
                  refine wpAnyZ_take (i := 22) (oi := ⟨some 58, Op.pick (Operand.tmp 42) (Operand.const (Value.bool true)) (Operand.tmp 57), 4, _, _, none⟩) (oz := ⟨none, Op.store 4 (Operand.tmp 59) (Operand.tmp 58), 0, _, _, none⟩) (v := .bool jb) rfl rfl (by kernel_rfl) (fun _ _ _ h => h) (by rfl) (by assumption) (fun wS hSw => ?_) ?_
                  · (try dsimp only at hSw); go_simp
                  simp only [Act.put, List.setIfInBounds_toArray, List.set_cons_zero, List.set_cons_succ]
                  refine wpAnyZ_take (i := 23) (oi := ⟨some 59, Op.indexAddr 52 (Operand.tmp 36) (Operand.tmp 37), 0, _, _, none⟩) (oz := ⟨none, Op.store 4 (Operand.tmp 59) (Operand.tmp 58), 0, _, _, none⟩) (v := .pointer (some ⟨B, k, none⟩)) rfl rfl (by kernel_rfl) (fun _ _ _ h => h) (by rfl) (by assumption) (fun wS hSw => ?_) ?_
                  · (try dsimp only at hSw); go_simp
                  simp only [Act.put, List.setIfInBounds_toArray, List.set_cons_zero, List.set_cons_succ]
                  refine wpAnyZ_listed #[true, true, true, true, true, true, true, true, true, true, true, true, true, true, true, true, true, true, true, true, true, true, true, true, false] (by kernel_rfl) ?_
                  refine wpAnyZ_step (o := ⟨none, Op.store 4 (Operand.tmp 59) (Operand.tmp 58), 0, _, _, none⟩) (by kernel_rfl) (by decide) rfl (fun K hK => ?_)
                  have k1 := X1.fact (.head _) (i := k) HMK.out
                  have f1 := X1.free (.head _) (i := k) HMK.out
                  go_simp
                  have XE := X1.set k (by rw [List.length_map]; exact HKL.out) (.bool jb)
                  rw [← List.map_set] at XE
                  generalize World.setCell w6 ⟨B, k, none⟩ (.bool jb) = wE at *
                  clear k1 f1 X1
                  try clear hHeld
                  refine hK.out _ _ ?_
                  clear hK K
                  try simp only [List.setIfInBounds_toArray, List.set_cons_zero, List.set_cons_succ]
                  refine wpAnyH_listed #[true, true, true, true, true, true, true, true, true, true, true, true, true, true, true, true, true, true, true, true, true, true, true, true, true] (by kernel_rfl) ?_
                  have hHeld := True.intro
                  refine wpAnyH_done (by kernel_rfl) ?_ _
                  refine Calm.normal ?_
                  clear hHeld HS2
                  go_wp2_with fail
                  go_roundw
                  case rel => exact ⟨k + 1, _, by omega, by go_num, Lib.hid ((show Rnd (JJ ws) f n S (S2.set k jb) i (k + 1) by have := HR2.out.step HK0.out HI0.out; rw [HJJ.out] at this; exact this)), XE⟩
                  case measure => simp [RowKit.intOf]; omega
              · have HK0 := Lib.hid hsk
                have HI0 := Lib.hid hsi
                have HMK := Lib.hid (show (S2.map Value.bool)[k]? = some (.bool true) by rw [List.getElem?_map, hsk]; rfl)
                have HMI := Lib.hid (show (S2.map Value.bool)[i]? = some (.bool si) by rw [List.getElem?_map, hsi]; rfl)
                clear hsk hsi
                have HS2 := Lib.hid (show ∀ w', Has w [(B, S2.map Value.bool)] w' → (w'.cell? ⟨B, k, none⟩ = some (.bool true) ∧ w'.cell? ⟨B, i, none⟩ = some (.bool si) ∧ w'.cell? ⟨bb, oo + i * 8, none⟩ = some (.int .i64 ti.id) ∧ w'.cell? ⟨bb, oo + i * 8 + 1, none⟩ = some (ui) ∧ w'.cell? ⟨bb, oo + i * 8 + 2, none⟩ = some (.int .i64 ti.lv) ∧ w'.cell? ⟨bb, oo + i * 8 + 3, none⟩ = some (.string ti.cl) ∧ w'.cell? ⟨bb, oo + i * 8 + 4, none⟩ = some (.string ti.nm) ∧ w'.cell? ⟨bb, oo + i * 8 + 5, none⟩ = some (.bool ti.st) ∧ w'.cell? ⟨bb, oo + i * 8 + 6, none⟩ = some (.int .i64 ti.wt) ∧ w'.cell? ⟨bb, oo + i * 8 + 7, none⟩ = some (.int .i64 ti.ds) ∧ w'.cell? ⟨bb, oo + k * 8, none⟩ = some (.int .i64 tk.id) ∧ w'.cell? ⟨bb, oo + k * 8 + 1, none⟩ = some (uk) ∧ w'.cell? ⟨bb, oo + k * 8 + 2, none⟩ = some (.int .i64 tk.lv) ∧ w'.cell? ⟨bb, oo + k * 8 + 3, none⟩ = some (.string tk.cl) ∧ w'.cell? ⟨bb, oo + k * 8 + 4, none⟩ = some (.string tk.nm) ∧ w'.cell? ⟨bb, oo + k * 8 + 5, none⟩ = some (.bool tk.st) ∧ w'.cell? ⟨bb, oo + k * 8 + 6, none⟩ = some (.int .i64 tk.wt) ∧ w'.cell? ⟨bb, oo + k * 8 + 7, none⟩ = some (.int .i64 tk.ds)) ∧ Has w [(B, S2.map Value.bool)] w' from fun w' h => ⟨⟨h.fact (.head _) (i := k) (HMK.out), h.fact (.head _) (i := i) (HMI.out), (h.low.cell (World.block_lt_of_cell? w _ a0.out)).trans a0.out, (h.low.cell (World.block_lt_of_cell? w _ a1.out)).trans a1.out, (h.low.cell (World.block_lt_of_cell? w _ a2.out)).trans a2.out, (h.low.cell (World.block_lt_of_cell? w _ a3.out)).trans a3.out, (h.low.cell (World.block_lt_of_cell? w _ a4.out)).trans a4.out, (h.low.cell (World.block_lt_of_cell? w _ a5.out)).trans a5.out, (h.low.cell (World.block_lt_of_cell? w _ a6.out)).trans a6.out, (h.low.cell (World.block_lt_of_cell? w _ a7.out)).trans a7.out, (h.low.cell (World.block_lt_of_cell? w _ HBK.out.1)).trans HBK.out.1, (h.low.cell (World.block_lt_of_cell? w _ HBK.out.2.1)).trans HBK.out.2.1, (h.low.cell (World.block_lt_of_cell? w _ HBK.out.2.2.1)).trans HBK.out.2.2.1, (h.low.cell (World.block_lt_of_cell? w _ HBK.out.2.2.2.1)).trans HBK.out.2.2.2.1, (h.low.cell (World.block_lt_of_cell? w _ HBK.out.2.2.2.2.1)).trans HBK.out.2.2.2.2.1, (h.low.cell (World.block_lt_of_cell? w _ HBK.out.2.2.2.2.2.1)).trans HBK.out.2.2.2.2.2.1, (h.low.cell (World.block_lt_of_cell? w _ HBK.out.2.2.2.2.2.2.1)).trans HBK.out.2.2.2.2.2.2.1, (h.low.cell (World.block_lt_of_cell? w _ HBK.out.2.2.2.2.2.2.2)).trans HBK.out.2.2.2.2.2.2.2⟩, h⟩)
                go_upto_region 12 with fail
                refine plain_Z 24 (fun w' => (w'.cell? ⟨B, k, none⟩ = some (.bool true) ∧ w'.cell? ⟨B, i, none⟩ = some (.bool si) ∧ w'.cell? ⟨bb, oo + i * 8, none⟩ = some (.int .i64 ti.id) ∧ w'.cell? ⟨bb, oo + i * 8 + 1, none⟩ = some (ui) ∧ w'.cell? ⟨bb, oo + i * 8 + 2, none⟩ = some (.int .i64 ti.lv) ∧ w'.cell? ⟨bb, oo + i * 8 + 3, none⟩ = some (.string ti.cl) ∧ w'.cell? ⟨bb, oo + i * 8 + 4, none⟩ = some (.string ti.nm) ∧ w'.cell? ⟨bb, oo + i * 8 + 5, none⟩ = some (.bool ti.st) ∧ w'.cell? ⟨bb, oo + i * 8 + 6, none⟩ = some (.int .i64 ti.wt) ∧ w'.cell? ⟨bb, oo + i * 8 + 7, none⟩ = some (.int .i64 ti.ds) ∧ w'.cell? ⟨bb, oo + k * 8, none⟩ = some (.int .i64 tk.id) ∧ w'.cell? ⟨bb, oo + k * 8 + 1, none⟩ = some (uk) ∧ w'.cell? ⟨bb, oo + k * 8 + 2, none⟩ = some (.int .i64 tk.lv) ∧ w'.cell? ⟨bb, oo + k * 8 + 3, none⟩ = some (.string tk.cl) ∧ w'.cell? ⟨bb, oo + k * 8 + 4, none⟩ = some (.string tk.nm) ∧ w'.cell? ⟨bb, oo + k * 8 + 5, none⟩ = some (.bool tk.st) ∧ w'.cell? ⟨bb, oo + k * 8 + 6, none⟩ = some (.int .i64 tk.wt) ∧ w'.cell? ⟨bb, oo + k * 8 + 7, none⟩ = some (.int .i64 tk.ds)) ∧ Has w [(B, S2.map Value.bool)] w') (by kernel_rfl) ?_
                have X0 := hI2.drew
                have hHeld := HS2.out _ X0
                generalize wr.drew = w5 at *
                clear hI2
                refine wpAnyZ_take (i := 0) (oi := ⟨some 36, Op.move (Operand.tmp 7), 52, _, _, none⟩) (oz := ⟨none, Op.store 4 (Operand.tmp 59) (Operand.tmp 58), 0, _, _, none⟩) (v := .slice (some ⟨B, 0, none⟩) n n) rfl rfl (by kernel_rfl) (fun _ _ _ h => h) (by rfl) (by assumption) (fun wS hSw => ?_) ?_
                · (try dsimp only at hSw); go_simp
                simp only [Act.put, List.setIfInBounds_toArray, List.set_cons_zero, List.set_cons_succ]
                refine wpAnyZ_take (i := 1) (oi := ⟨some 37, Op.move (Operand.tmp 10), 3, _, _, none⟩) (oz := ⟨none, Op.store 4 (Operand.tmp 59) (Operand.tmp 58), 0, _, _, none⟩) (v := .int .i64 k) rfl rfl (by kernel_rfl) (fun _ _ _ h => h) (by rfl) (by assumption) (fun wS hSw => ?_) ?_
                · (try dsimp only at hSw); go_simp
                simp only [Act.put, List.setIfInBounds_toArray, List.set_cons_zero, List.set_cons_succ]
                refine wpAnyZ_take (i := 2) (oi := ⟨some 38, Op.move (Operand.tmp 7), 52, _, _, none⟩) (oz := ⟨none, Op.store 4 (Operand.tmp 59) (Operand.tmp 58), 0, _, _, none⟩) (v := .slice (some ⟨B, 0, none⟩) n n) rfl rfl (by kernel_rfl) (fun _ _ _ h => h) (by rfl) (by assumption) (fun wS hSw => ?_) ?_
                · (try dsimp only at hSw); go_simp
                simp only [Act.put, List.setIfInBounds_toArray, List.set_cons_zero, List.set_cons_succ]
                refine wpAnyZ_take (i := 3) (oi := ⟨some 39, Op.move (Operand.tmp 10), 3, _, _, none⟩) (oz := ⟨none, Op.store 4 (Operand.tmp 59) (Operand.tmp 58), 0, _, _, none⟩) (v := .int .i64 k) rfl rfl (by kernel_rfl) (fun _ _ _ h => h) (by rfl) (by assumption) (fun wS hSw => ?_) ?_
                · (try dsimp only at hSw); go_simp
                simp only [Act.put, List.setIfInBounds_toArray, List.set_cons_zero, List.set_cons_succ]
                refine wpAnyZ_take (i := 4) (oi := ⟨some 40, Op.indexAddr 52 (Operand.tmp 38) (Operand.tmp 39), 0, _, _, none⟩) (oz := ⟨none, Op.store 4 (Operand.tmp 59) (Operand.tmp 58), 0, _, _, none⟩) (v := .pointer (some ⟨B, k, none⟩)) rfl rfl (by kernel_rfl) (fun _ _ _ h => h) (by rfl) (by assumption) (fun wS hSw => ?_) ?_
                · (try dsimp only at hSw); go_simp
                simp only [Act.put, List.setIfInBounds_toArray, List.set_cons_zero, List.set_cons_succ]
                refine wpAnyZ_take (i := 5) (oi := ⟨some 41, Op.load 4 (Operand.tmp 40), 4, _, _, none⟩) (oz := ⟨none, Op.store 4 (Operand.tmp 59) (Operand.tmp 58), 0, _, _, none⟩) (v := .bool true) rfl rfl (by kernel_rfl) (fun _ _ _ h => h) (by rfl) (by assumption) (fun wS hSw => ?_) ?_
                · (try dsimp only at hSw); go_simp
                simp only [Act.put, List.setIfInBounds_toArray, List.set_cons_zero, List.set_cons_succ]
                refine wpAnyZ_take (i := 6) (oi := ⟨some 42, Op.move (Operand.tmp 41), 4, _, _, none⟩) (oz := ⟨none, Op.store 4 (Operand.tmp 59) (Operand.tmp 58), 0, _, _, none⟩) (v := .bool true) rfl rfl (by kernel_rfl) (fun _ _ _ h => h) (by rfl) (by assumption) (fun wS hSw => ?_) ?_
                · (try dsimp only at hSw); go_simp
                simp only [Act.put, List.setIfInBounds_toArray, List.set_cons_zero, List.set_cons_succ]
                refine wpAnyZ_listed #[true, true, true, true, true, true, true, false, false, false, false, false, false, false, false, false, false, false, false, false, false, false, false, false, false] (by kernel_rfl) ?_
                refine wpAnyZ_skip (i := 7) (oi := ⟨some 43, Op.move (Operand.tmp 7), 52, _, _, some (6, false)⟩) (oz := ⟨none, Op.store 4 (Operand.tmp 59) (Operand.tmp 58), 0, _, _, none⟩) rfl rfl (by kernel_rfl) (fun _ _ _ h => h) (by rfl) (by assumption) ?_
                simp only [Act.put, List.setIfInBounds_toArray, List.set_cons_zero, List.set_cons_succ]
                refine wpAnyZ_skip (i := 8) (oi := ⟨some 44, Op.move (Operand.tmp 9), 3, _, _, some (6, false)⟩) (oz := ⟨none, Op.store 4 (Operand.tmp 59) (Operand.tmp 58), 0, _, _, none⟩) rfl rfl (by kernel_rfl) (fun _ _ _ h => h) (by rfl) (by assumption) ?_
                simp only [Act.put, List.setIfInBounds_toArray, List.set_cons_zero, List.set_cons_succ]
                refine wpAnyZ_skip (i := 9) (oi := ⟨some 45, Op.indexAddr 52 (Operand.tmp 43) (Operand.tmp 44), 0, _, _, some (6, false)⟩) (oz := ⟨none, Op.store 4 (Operand.tmp 59) (Operand.tmp 58), 0, _, _, none⟩) rfl rfl (by kernel_rfl) (fun _ _ _ h => h) (by rfl) (by assumption) ?_
                simp only [Act.put, List.setIfInBounds_toArray, List.set_cons_zero, List.set_cons_succ]
                refine wpAnyZ_skip (i := 10) (oi := ⟨some 46, Op.load 4 (Operand.tmp 45), 4, _, _, some (6, false)⟩) (oz := ⟨none, Op.store 4 (Operand.tmp 59) (Operand.tmp 58), 0, _, _, none⟩) rfl rfl (by kernel_rfl) (fun _ _ _ h => h) (by rfl) (by assumption) ?_
                simp only [Act.put, List.setIfInBounds_toArray, List.set_cons_zero, List.set_cons_succ]
                refine wpAnyZ_skip (i := 11) (oi := ⟨some 47, Op.move (Operand.tmp 46), 4, _, _, some (6, false)⟩) (oz := ⟨none, Op.store 4 (Operand.tmp 59) (Operand.tmp 58), 0, _, _, none⟩) rfl rfl (by kernel_rfl) (fun _ _ _ h => h) (by rfl) (by assumption) ?_
                simp only [Act.put, List.setIfInBounds_toArray, List.set_cons_zero, List.set_cons_succ]
                refine wpAnyZ_listed #[true, true, true, true, true, true, true, true, true, true, true, true, false, false, false, false, false, false, false, false, false, false, false, false, false] (by kernel_rfl) ?_
                refine wpAnyZ_skip (i := 12) (oi := ⟨some 48, Op.move (Operand.tmp 0), 23, _, _, some (11, true)⟩) (oz := ⟨none, Op.store 4 (Operand.tmp 59) (Operand.tmp 58), 0, _, _, none⟩) rfl rfl (by kernel_rfl) (fun _ _ _ h => h) (by rfl) (by assumption) ?_
                simp only [Act.put, List.setIfInBounds_toArray, List.set_cons_zero, List.set_cons_succ]
                refine wpAnyZ_skip (i := 13) (oi := ⟨some 49, Op.move (Operand.tmp 9), 3, _, _, some (11, true)⟩) (oz := ⟨none, Op.store 4 (Operand.tmp 59) (Operand.tmp 58), 0, _, _, none⟩) rfl rfl (by kernel_rfl) (fun _ _ _ h => h) (by rfl) (by assumption) ?_
                simp only [Act.put, List.setIfInBounds_toArray, List.set_cons_zero, List.set_cons_succ]
                refine wpAnyZ_skip (i := 14) (oi := ⟨some 50, Op.indexAddr 23 (Operand.tmp 48) (Operand.tmp 49), 0, _, _, some (11, true)⟩) (oz := ⟨none, Op.store 4 (Operand.tmp 59) (Operand.tmp 58), 0, _, _, none⟩) rfl rfl (by kernel_rfl) (fun _ _ _ h => h) (by rfl) (by assumption) ?_
                simp only [Act.put, List.setIfInBounds_toArray, List.set_cons_zero, List.set_cons_succ]
                refine wpAnyZ_skip (i := 15) (oi := ⟨some 51, Op.load 44 (Operand.tmp 50), 44, _, _, some (11, true)⟩) (oz := ⟨none, Op.store 4 (Operand.tmp 59) (Operand.tmp 58), 0, _, _, none⟩) rfl rfl (by kernel_rfl) (fun _ _ _ h => h) (by rfl) (by assumption) ?_
                simp only [Act.put, List.setIfInBounds_toArray, List.set_cons_zero, List.set_cons_succ]
                refine wpAnyZ_skip (i := 16) (oi := ⟨some 52, Op.move (Operand.tmp 0), 23, _, _, some (11, true)⟩) (oz := ⟨none, Op.store 4 (Operand.tmp 59) (Operand.tmp 58), 0, _, _, none⟩) rfl rfl (by kernel_rfl) (fun _ _ _ h => h) (by rfl) (by assumption) ?_
                simp only [Act.put, List.setIfInBounds_toArray, List.set_cons_zero, List.set_cons_succ]
                refine wpAnyZ_skip (i := 17) (oi := ⟨some 53, Op.move (Operand.tmp 10), 3, _, _, some (11, true)⟩) (oz := ⟨none, Op.store 4 (Operand.tmp 59) (Operand.tmp 58), 0, _, _, none⟩) rfl rfl (by kernel_rfl) (fun _ _ _ h => h) (by rfl) (by assumption) ?_
                simp only [Act.put, List.setIfInBounds_toArray, List.set_cons_zero, List.set_cons_succ]
                refine wpAnyZ_skip (i := 18) (oi := ⟨some 54, Op.indexAddr 23 (Operand.tmp 52) (Operand.tmp 53), 0, _, _, some (11, true)⟩) (oz := ⟨none, Op.store 4 (Operand.tmp 59) (Operand.tmp 58), 0, _, _, none⟩) rfl rfl (by kernel_rfl) (fun _ _ _ h => h) (by rfl) (by assumption) ?_
                simp only [Act.put, List.setIfInBounds_toArray, List.set_cons_zero, List.set_cons_succ]
                refine wpAnyZ_skip (i := 19) (oi := ⟨some 55, Op.load 44 (Operand.tmp 54), 44, _, _, some (11, true)⟩) (oz := ⟨none, Op.store 4 (Operand.tmp 59) (Operand.tmp 58), 0, _, _, none⟩) rfl rfl (by kernel_rfl) (fun _ _ _ h => h) (by rfl) (by assumption) ?_
                simp only [Act.put, List.setIfInBounds_toArray, List.set_cons_zero, List.set_cons_succ]
                refine wpAnyZ_skip (i := 20) (oi := ⟨some 56, Op.call { callee := Callee.value (Operand.func 20), args := #[Operand.tmp 51, Operand.tmp 55], argTypes := #[44, 44] }, 4, _, _, some (11, true)⟩) (oz := ⟨none, Op.store 4 (Operand.tmp 59) (Operand.tmp 58), 0, _, _, none⟩) rfl rfl (by kernel_rfl) (fun _ _ _ h => h) (by rfl) (by assumption) ?_
                simp only [Act.put, List.setIfInBounds_toArray, List.set_cons_zero, List.set_cons_succ]
                refine wpAnyZ_skip (i := 21) (oi := ⟨some 57, Op.pick (Operand.tmp 47) (Operand.tmp 56) (Operand.const (Value.bool false)), 4, _, _, some (6, false)⟩) (oz := ⟨none, Op.store 4 (Operand.tmp 59) (Operand.tmp 58), 0, _, _, none⟩) rfl rfl (by kernel_rfl) (fun _ _ _ h => h) (by rfl) (by assumption) ?_
                simp only [Act.put, List.setIfInBounds_toArray, List.set_cons_zero, List.set_cons_succ]
                refine wpAnyZ_listed #[true, true, true, true, true, true, true, true, true, true, true, true, true, true, true, true, true, true, true, true, true, true, false, false, false] (by kernel_rfl) ?_
                refine wpAnyZ_take (i := 22) (oi := ⟨some 58, Op.pick (Operand.tmp 42) (Operand.const (Value.bool true)) (Operand.tmp 57), 4, _, _, none⟩) (oz := ⟨none, Op.store 4 (Operand.tmp 59) (Operand.tmp 58), 0, _, _, none⟩) (v := .bool true) rfl rfl (by kernel_rfl) (fun _ _ _ h => h) (by rfl) (by assumption) (fun wS hSw => ?_) ?_
                · (try dsimp only at hSw); go_simp
                simp only [Act.put, List.setIfInBounds_toArray, List.set_cons_zero, List.set_cons_succ]
                refine wpAnyZ_take (i := 23) (oi := ⟨some 59, Op.indexAddr 52 (Operand.tmp 36) (Operand.tmp 37), 0, _, _, none⟩) (oz := ⟨none, Op.store 4 (Operand.tmp 59) (Operand.tmp 58), 0, _, _, none⟩) (v := .pointer (some ⟨B, k, none⟩)) rfl rfl (by kernel_rfl) (fun _ _ _ h => h) (by rfl) (by assumption) (fun wS hSw => ?_) ?_
                · (try dsimp only at hSw); go_simp
                simp only [Act.put, List.setIfInBounds_toArray, List.set_cons_zero, List.set_cons_succ]
                refine wpAnyZ_listed #[true, true, true, true, true, true, true, true, true, true, true, true, true, true, true, true, true, true, true, true, true, true, true, true, false] (by kernel_rfl) ?_
                refine wpAnyZ_step (o := ⟨none, Op.store 4 (Operand.tmp 59) (Operand.tmp 58), 0, _, _, none⟩) (by kernel_rfl) (by decide) rfl (fun K hK => ?_)
                have k1 := X0.fact (.head _) (i := k) HMK.out
                have f1 := X0.free (.head _) (i := k) HMK.out
                go_simp
                have XE := X0.set k (by rw [List.length_map]; exact HKL.out) (.bool true)
                rw [← List.map_set] at XE
                generalize World.setCell w5 ⟨B, k, none⟩ (.bool true) = wE at *
                clear k1 f1 X0
                try clear hHeld
                refine hK.out _ _ ?_
                clear hK K
                try simp only [List.setIfInBounds_toArray, List.set_cons_zero, List.set_cons_succ]
                refine wpAnyH_listed #[true, true, true, true, true, true, true, true, true, true, true, true, true, true, true, true, true, true, true, true, true, true, true, true, true] (by kernel_rfl) ?_
                have hHeld := True.intro
                refine wpAnyH_done (by kernel_rfl) ?_ _
                refine Calm.normal ?_
                clear hHeld HS2
                go_wp2_with fail
                go_roundw
                case rel => exact ⟨k + 1, _, by omega, by go_num, Lib.hid (HR2.out.step HK0.out HI0.out), XE⟩
                case measure => simp [RowKit.intOf]; omega
            · obtain rfl : k = n := by omega
              go_wp2_with fail
              go_roundw
              case rel => exact ⟨i + 1, S2, by omega, by go_num, Lib.hid HR2.out.row, hI2⟩
              case measure => simp [RowKit.intOf]; omega
        · obtain rfl : i = n := by omega
          go_wp2_with fail
          go_roundw
          case rel => exact ⟨q + 1, S1, by omega, by go_num, Lib.hid ⟨HR1.out.len, HR1.out.le _ HS0.out.2.1, HR1.out.sound, HR1.out.over HS0.out.2.2.2⟩, hI1⟩
          case measure => simp [RowKit.intOf]; omega
    · obtain rfl : q = n := by omega
      have HE := Lib.hid (fun (k : Nat) (s : Bool) (hk : S[k]? = some s) => seen_end HN.out HS0.out.1 HS0.out.2.1 HS0.out.2.2.1 HS0.out.2.2.2 hk)
      go_wp2_with fail
      go_loopw [11] (fun r W => ∃ k : Nat, k ≤ q ∧ r = .int .i64 k ∧ Has w [(B, S.map Value.bool)] W) (fun r _ => q - (RowKit.intOf r).toNat)
      case atStart => exact ⟨0, Nat.zero_le _, rfl, hI⟩
      case round =>
        clear hI
        obtain ⟨k, hk, rfl, hI⟩ := hrel
        by_cases hkn : k < q
        · have b6 : (k : Int) < q := by omega
          have b7 : (0 : Int) ≤ k := by omega
          obtain ⟨bb, oo, rfl, hcell⟩ := (HW.out.later hI.low).spot (by rw [HN.out]; omega)
          obtain ⟨tk, htk⟩ : ∃ t, ws[k]? = some t := ⟨_, List.getElem?_eq_getElem (by rw [HN.out]; omega)⟩
          obtain ⟨tf, htf⟩ : ∃ t, ws[f]? = some t := ⟨_, List.getElem?_eq_getElem (by rw [HN.out]; omega)⟩
          obtain ⟨-, -, c1, -⟩ := hcell k tk htk
          obtain ⟨-, -, c2, -⟩ := hcell f tf htf
          rw [HI.out k tk htk] at c1
          rw [HI.out f tf htf] at c2
          obtain ⟨s, hs⟩ : ∃ s, S[k]? = some s := ⟨_, List.getElem?_eq_getElem (by rw [HS0.out.1]; exact hkn)⟩
          obtain ⟨fk, hfk⟩ : ∃ z, F k = z := ⟨_, rfl⟩
          obtain ⟨ff, hff⟩ : ∃ z, F f = z := ⟨_, rfl⟩
          have hse : s = (fk == ff) := by
            rw [HE.out k s hs, Bool.eq_iff_iff, ← HS.out k (by rw [HN.out]; exact hkn), hfk, hff]
            simp
          subst hse
          have c3 := hI.fact (.head _) (i := k) (show (S.map Value.bool)[k]? = some (.bool (fk == ff)) by rw [List.getElem?_map, hs]; rfl)
          have K1 := Lib.hid (fun (d : Nat) => show Calls Tryz.prog 25 #[.slice ga gn gc, .int .i64 ((k : Int) + 1)] (wr.drewN d) (fun e w' => e = .returned (.int .i64 fk) ∧ w' = wr.drewN d) from hfk ▸ (HF.out k _ _ (by rw [HN.out]; exact hkn) ((HG.out.later hI.low).later (below_drewN (Below.refl _ _) d))).mono fun _ _ ⟨h1, h2⟩ => ⟨h1, h2.symm⟩)
          have K2 := Lib.hid (fun (d : Nat) => show Calls Tryz.prog 25 #[.slice ga gn gc, .int .i64 ((f : Int) + 1)] (wr.drewN d) (fun e w' => e = .returned (.int .i64 ff) ∧ w' = wr.drewN d) from hff ▸ (HF.out f _ _ (by rw [HN.out]; exact hfn) ((HG.out.later hI.low).later (below_drewN (Below.refl _ _) d))).mono fun _ _ ⟨h1, h2⟩ => ⟨h1, h2.symm⟩)
          clear hcell htk htf hs hfk hff
          have lw : IntKind.i64.wrap ((k : Int) + 1) = (k : Int) + 1 := by rw [IntKind.wrap_i64]; omega
          go_upto_region 16 with fail
          go_quiet ((first | (go_at_call 25; with_reducible exact Calls.quiet_of_same (K1.out _)) | (go_at_call 25; with_reducible exact Calls.quiet_of_same (K2.out _))))
          have hI2 := hI.drewN nq
          generalize wr.drewN nq = wz at *
          clear K1 K2 c1 c2 c3 hI
          go_wp2_with fail
          go_roundw
          case rel => exact ⟨k + 1, by omega, by go_num, hI2⟩
          case measure => simp [RowKit.intOf]; omega
        · obtain rfl : k = q := by omega
          have BB := hI.low
          go_wp2_with fail
          go_ret
          exact ⟨rfl, BB⟩

end Go.Proofs.YtoaldbjcpfkcjaaGreat
