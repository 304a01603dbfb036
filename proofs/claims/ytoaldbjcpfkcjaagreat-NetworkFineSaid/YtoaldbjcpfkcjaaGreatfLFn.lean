/- The walk of NetworkFine. -/
import Derived.Test.YtoaldbjcpfkcjaaGreatfFw
import Derived.Test.YtoaldbjcpfkcjaaGreatfFm
import Derived.Test.YtoaldbjcpfkcjaaGreatfSw
import Derived.Test.YtoaldbjcpfkcjaaGreatfXg
namespace Go.Proofs.YtoaldbjcpfkcjaaGreat
open Go.RowKit Go.Lib

theorem G.FnW.wk {ws : List Wy} (h : G.FnW ws) : ∀ t ∈ ws, WK t := by
 obtain ⟨ms, h1, h2⟩ := h.sub
 exact fun t ht => h1.wk t (h2.subset ht)
/-- What is known of a point that lies on another way of its level. -/
def EndQ (q an : Nat) (p : Int × Int) (lb : List (Int × Int)) : Prop := (q = 0 ∨ q + 1 = an) ∧ (p = pt lb 0 ∨ p = pt lb (lb.length - 1))
set_option linter.unusedSimpArgs false in
set_option maxRecDepth 100000 in
set_option maxHeartbeats 8000000 in
theorem finel_any (v : Value) (xs : List Int) (m1 : Nat) (w : World) (R : RowN w v xs) (h1 : m1 < 256) :
  Calls Tryz.prog 4 #[v, .int .u8 (m1 : Int)] w fun e w' => e = .returned (.bool true) ∧ Below w.heap.size w w' := by
 have HR := Lib.hid R
 obtain ⟨va, vc, rfl, -⟩ := R
 generalize xs.length = xn at *
 go_enter Tryz.func4, Tryz.ntmps4
 go_wp2_with fail
 refine (sane_any _).mono ?_
 rintro e w1 ⟨rfl, g1⟩
 go_wp2_with fail
 refine (G.fine_any _ xs _ (HR.out.later g1)).mono ?_
 rintro e w2 ⟨u, ws, rfl, RW, hFl, hF, g2⟩
 have HG := Lib.hid (show Grows w w2 from Grows.then g1 g2)
 have HF := Lib.hid hF
 have HFl := Lib.hid hFl
 clear g1 g2 hF hFl HR
 obtain ⟨gwA, n, cw, rfl, hn, hc1, hc2, RW⟩ := RW.form
 have HN := Lib.hid hn
 have h6 : n ≤ 6 := by rw [← hn]; exact HF.out.len
 have HW2 := Lib.hid RW
 clear hn RW
 go_wp2_with fail
 refine (checkn_is _ ws 0 HF.out.chk _ HW2.out).mono ?_
 rintro e w3 ⟨rfl, g3⟩
 have HW := Lib.hid (HW2.out.later g3)
 have HG := Lib.hid (show Grows w w3 from HG.out.then g3)
 clear g3 HW2
 go_wp2_with fail
 go_loopw [7] (fun x wx => ∃ i : Nat, i ≤ n ∧ x = .int .i64 i ∧ Hid (Grows w3 wx)) (fun x _ => n - (RowKit.intOf x).toNat)
 case atStart => exact ⟨0, Nat.zero_le _, rfl, Lib.hid (Below.refl _ _)⟩
 case round =>
  obtain ⟨i, hi, rfl, HGi⟩ := hrel
  generalize wr = wi at *
  by_cases hin : i < n
  ·have b1 : (i : Int) < n := by omega
   have bi : (0 : Int) ≤ i := by omega
   go_wp2_with fail
   go_loopw [8] (fun x wx => ∃ k : Nat, k ≤ i ∧ x = .int .i64 k ∧ Hid (Grows w3 wx)) (fun x _ => i - (RowKit.intOf x).toNat)
   case atStart => exact ⟨0, Nat.zero_le _, rfl, HGi⟩
   case round =>
    clear HGi
    obtain ⟨k, hk, rfl, HGk⟩ := hrel
    generalize wr = wk at *
    by_cases hki : k < i
    ·have b2 : (k : Int) < i := by omega
     have b3 : (k : Int) < n := by omega
     have bk : (0 : Int) ≤ k := by omega
     obtain ⟨gw, ow, rfl, hcell⟩ := HW.out.spot (by rw [HN.out]; omega)
     obtain ⟨ti, hti⟩ : ∃ t, ws[i]? = some t := ⟨_, List.getElem?_eq_getElem (by rw [HN.out]; omega)⟩
     obtain ⟨tk, htk⟩ : ∃ t, ws[k]? = some t := ⟨_, List.getElem?_eq_getElem (by rw [HN.out]; omega)⟩
     obtain ⟨ui, ri, ci⟩ := hcell i ti hti
     obtain ⟨uk, rk, ck⟩ := hcell k tk htk
     obtain ⟨hpa, hpb, hcr⟩ := chkN_pair HF.out.chk hki hti htk
     have ga := HF.out.at' ti (List.mem_of_getElem? hti)
     have gb := HF.out.at' tk (List.mem_of_getElem? htk)
     obtain ⟨⟨aid, aln, alv, acl, anm, ast, awt, ads⟩, hT⟩ : ∃ t', ti = t' := ⟨_, rfl⟩
     subst hT
     obtain ⟨⟨bid, bln, blv, bcl, bnm, bst, bwt, bds⟩, hT⟩ : ∃ t', tk = t' := ⟨_, rfl⟩
     subst hT
     simp only [] at ri ci rk ck hpa hpb hcr ga gb
     have HCR := Lib.hid hcr
     obtain ⟨-, hra, hsa⟩ := chkP_ok hpa
     obtain ⟨-, hrb, hsb⟩ := chkP_ok hpb
     have HRA := Lib.hid hra
     have HSA := Lib.hid hsa
     have HRB := Lib.hid hrb
     obtain ⟨ula, an, ac, rfl, hal, ri⟩ := ri.form
     obtain ⟨ulb, bn, bc, rfl, hbl, rk⟩ := rk.form
     have la := ri.len
     have lb := rk.len
     have HAL := Lib.hid hal
     have HBL := Lib.hid hbl
     have a2 : 2 ≤ an ∧ an ≤ 3 := by rw [← hal]; exact ga.2.2.1
     have b4 : 2 ≤ bn ∧ bn ≤ 3 := by rw [← hbl]; exact gb.2.2.1
     have ac2 : an ≤ ac ∧ (ac : Int) ≤ 9223372036854775807 := by omega
     have bc2 : bn ≤ bc ∧ (bc : Int) ≤ 9223372036854775807 := by omega
     obtain ⟨al, ao, rfl, ha⟩ := ri.spot (by rw [hal]; omega)
     obtain ⟨bl, bo, rfl, hb⟩ := rk.spot (by rw [hbl]; omega)
     have HA := Lib.hid ha
     have HB := Lib.hid hb
     have HBW := Lib.hid (show ∀ (jj : Nat) (p : Int × Int), bln[jj]? = some p → ∀ wx, Grows wk wx → wx.cell? ⟨bl, bo + jj * 2, none⟩ = some (.int .i64 p.1) ∧ wx.cell? ⟨bl, bo + jj * 2 + 1, none⟩ = some (.int .i64 p.2) from fun jj p hp wx hg => by
      have h := HB.out jj p hp
      have g := HGk.out.then hg
      exact ⟨(g.cell (World.block_lt_of_cell? _ _ h.1)).trans h.1, (g.cell (World.block_lt_of_cell? _ _ h.2)).trans h.2⟩)
     have HM := Lib.hid (fun wx (hg : Grows wk wx) => show (wx.cell? ⟨gw, ow + i * 8, none⟩ = some (.int .i64 aid) ∧ wx.cell? ⟨gw, ow + i * 8 + 1, none⟩ = some (.slice (some ⟨al, ao, none⟩) an ac) ∧ wx.cell? ⟨gw, ow + i * 8 + 2, none⟩ = some (.int .i64 alv) ∧ wx.cell? ⟨gw, ow + i * 8 + 3, none⟩ = some (.string acl) ∧ wx.cell? ⟨gw, ow + i * 8 + 4, none⟩ = some (.string anm) ∧ wx.cell? ⟨gw, ow + i * 8 + 5, none⟩ = some (.bool ast) ∧ wx.cell? ⟨gw, ow + i * 8 + 6, none⟩ = some (.int .i64 awt) ∧ wx.cell? ⟨gw, ow + i * 8 + 7, none⟩ = some (.int .i64 ads) ∧ wx.cell? ⟨gw, ow + k * 8, none⟩ = some (.int .i64 bid) ∧ wx.cell? ⟨gw, ow + k * 8 + 1, none⟩ = some (.slice (some ⟨bl, bo, none⟩) bn bc) ∧ wx.cell? ⟨gw, ow + k * 8 + 2, none⟩ = some (.int .i64 blv) ∧ wx.cell? ⟨gw, ow + k * 8 + 3, none⟩ = some (.string bcl) ∧ wx.cell? ⟨gw, ow + k * 8 + 4, none⟩ = some (.string bnm) ∧ wx.cell? ⟨gw, ow + k * 8 + 5, none⟩ = some (.bool bst) ∧ wx.cell? ⟨gw, ow + k * 8 + 6, none⟩ = some (.int .i64 bwt) ∧ wx.cell? ⟨gw, ow + k * 8 + 7, none⟩ = some (.int .i64 bds)) ∧ Grows wk wx from by
      have k : ∀ {ad : Addr} {v : Value}, w3.cell? ad = some v → wx.cell? ad = some v := fun {_ _} q => ((HGk.out.then hg).cell (World.block_lt_of_cell? _ _ q)).trans q
      obtain ⟨c0, c1, c2, c3, c4, c5, c6, c7⟩ := ci
      obtain ⟨d0, d1, d2, d3, d4, d5, d6, d7⟩ := ck
      exact ⟨⟨k c0, k c1, k c2, k c3, k c4, k c5, k c6, k c7, k d0, k d1, k d2, k d3, k d4, k d5, k d6, k d7⟩, hg⟩)
     clear ri rk ci ck hcell hti htk hpa hpb hcr ga gb hra hsa hrb hsb hal hbl ha hb la lb
     go_upto_region 11 with fail
     go_cut [9, 10] (fun v1 v2 wx => ∃ PA PB : Nat, v1 = .pointer (some ⟨PA, 0, none⟩) ∧ v2 = .pointer (some ⟨PB, 0, none⟩) ∧ Hid (Has wk [(PB, [.int .i64 bid, .slice (some ⟨bl, bo, none⟩) bn bc, .int .i64 blv, .string bcl, .string bnm, .bool bst, .int .i64 bwt, .int .i64 bds]), (PA, [.int .i64 aid, .slice (some ⟨al, ao, none⟩) an ac, .int .i64 alv, .string acl, .string anm, .bool ast, .int .i64 awt, .int .i64 ads])] wx))
     case first =>
      refine wp_region_held_drew (S := (fun wx => (wx.cell? ⟨gw, ow + i * 8, none⟩ = some (.int .i64 aid) ∧ wx.cell? ⟨gw, ow + i * 8 + 1, none⟩ = some (.slice (some ⟨al, ao, none⟩) an ac) ∧ wx.cell? ⟨gw, ow + i * 8 + 2, none⟩ = some (.int .i64 alv) ∧ wx.cell? ⟨gw, ow + i * 8 + 3, none⟩ = some (.string acl) ∧ wx.cell? ⟨gw, ow + i * 8 + 4, none⟩ = some (.string anm) ∧ wx.cell? ⟨gw, ow + i * 8 + 5, none⟩ = some (.bool ast) ∧ wx.cell? ⟨gw, ow + i * 8 + 6, none⟩ = some (.int .i64 awt) ∧ wx.cell? ⟨gw, ow + i * 8 + 7, none⟩ = some (.int .i64 ads) ∧ wx.cell? ⟨gw, ow + k * 8, none⟩ = some (.int .i64 bid) ∧ wx.cell? ⟨gw, ow + k * 8 + 1, none⟩ = some (.slice (some ⟨bl, bo, none⟩) bn bc) ∧ wx.cell? ⟨gw, ow + k * 8 + 2, none⟩ = some (.int .i64 blv) ∧ wx.cell? ⟨gw, ow + k * 8 + 3, none⟩ = some (.string bcl) ∧ wx.cell? ⟨gw, ow + k * 8 + 4, none⟩ = some (.string bnm) ∧ wx.cell? ⟨gw, ow + k * 8 + 5, none⟩ = some (.bool bst) ∧ wx.cell? ⟨gw, ow + k * 8 + 6, none⟩ = some (.int .i64 bwt) ∧ wx.cell? ⟨gw, ow + k * 8 + 7, none⟩ = some (.int .i64 bds)) ∧ Grows wk wx)) (by kernel_rfl) (HM.out _ (Below.refl _ wk).drew) (fun hHeld => ?_)
      have H0 : Has wk [] wk.drew := Has.nil (Below.refl _ wk).drew
      generalize wk.drew = w0 at *
      refine tbA [0, 1, 2, 3, 4, 5, 6, 7] ?_
      refine tkA (.slice (some ⟨gw, ow, none⟩) n cw) (oi := ⟨some 34, .move (.tmp 6), 23, _, _, none⟩) ?_
      simp only [Act.put, pA, pB, pC]
      refine tkA (.int .i64 i) (oi := ⟨some 35, .move (.tmp 7), 3, _, _, none⟩) ?_
      simp only [Act.put, pA, pB, pC]
      refine tkA (.pointer (some ⟨gw, ow + i * 8, none⟩)) (oi := ⟨some 36, .indexAddr 23 (.tmp 34) (.tmp 35), 0, _, _, none⟩) ?_
      simp only [Act.put, pA, pB, pC]
      refine tkA (.agg #[.int .i64 aid, .slice (some ⟨al, ao, none⟩) an ac, .int .i64 alv, .string acl, .string anm, .bool ast, .int .i64 awt, .int .i64 ads]) (oi := ⟨some 37, .load 44 (.tmp 36), 44, _, _, none⟩) ?_
      simp only [Act.put, pA, pB, pC]
      refine tkA (.slice (some ⟨gw, ow, none⟩) n cw) (oi := ⟨some 38, .move (.tmp 6), 23, _, _, none⟩) ?_
      simp only [Act.put, pA, pB, pC]
      refine tkA (.int .i64 k) (oi := ⟨some 39, .move (.tmp 8), 3, _, _, none⟩) ?_
      simp only [Act.put, pA, pB, pC]
      refine tkA (.pointer (some ⟨gw, ow + k * 8, none⟩)) (oi := ⟨some 40, .indexAddr 23 (.tmp 38) (.tmp 39), 0, _, _, none⟩) ?_
      simp only [Act.put, pA, pB, pC]
      refine tkA (.agg #[.int .i64 bid, .slice (some ⟨bl, bo, none⟩) bn bc, .int .i64 blv, .string bcl, .string bnm, .bool bst, .int .i64 bwt, .int .i64 bds]) (oi := ⟨some 41, .load 44 (.tmp 40), 44, _, _, none⟩) ?_
      simp only [Act.put, pA, pB, pC]
      refine teA ?_
      refine tlA #[true, true, true, true, true, true, true, true, false, false, false, false] ?_
      refine trA [8, 9] ?_
      refine AllReadyH.cons (o := ⟨some 9, .alloc 44, 0, _, _, none⟩) rfl (fun K hK => ?_) ?_
      ·go_simp
       have Hn := H0.push [.int .i64 0, .slice none 0 0, .int .i64 0, .string { data := #[] }, .string { data := #[] }, .bool false, .int .i64 0, .int .i64 0] 44
       change Has wk _ (w0.alloc (.cells #[.int .i64 0, .slice none 0 0, .int .i64 0, .string { data := #[] }, .string { data := #[] }, .bool false, .int .i64 0, .int .i64 0] 44)) at Hn
       obtain ⟨PA, hPA⟩ : ∃ PA, w0.heap.size = PA := ⟨_, rfl⟩
       rw [hPA] at Hn ⊢
       generalize w0.alloc (.cells #[.int .i64 0, .slice none 0 0, .int .i64 0, .string { data := #[] }, .string { data := #[] }, .bool false, .int .i64 0, .int .i64 0] 44) = WA at *
       clear hPA H0
       have H0 := Hn
       clear Hn
       clear hHeld
       refine hK.out _ _ (HM.out _ H0.low) (fun hHeld => ?_)
       clear hK K
       try simp only [pA, pB, pC]
       refine tlA #[true, true, true, true, true, true, true, true, true, false, false, false] ?_
       refine trA [9] ?_
       refine AllReadyH.cons (o := ⟨some 10, .alloc 44, 0, _, _, none⟩) rfl (fun K hK => ?_) AllReadyH.nil
       go_simp
       have Hn := H0.push [.int .i64 0, .slice none 0 0, .int .i64 0, .string { data := #[] }, .string { data := #[] }, .bool false, .int .i64 0, .int .i64 0] 44
       change Has wk _ (WA.alloc (.cells #[.int .i64 0, .slice none 0 0, .int .i64 0, .string { data := #[] }, .string { data := #[] }, .bool false, .int .i64 0, .int .i64 0] 44)) at Hn
       obtain ⟨PB, hPB⟩ : ∃ PB, WA.heap.size = PB := ⟨_, rfl⟩
       rw [hPB] at Hn ⊢
       generalize WA.alloc (.cells #[.int .i64 0, .slice none 0 0, .int .i64 0, .string { data := #[] }, .string { data := #[] }, .bool false, .int .i64 0, .int .i64 0] 44) = WB at *
       clear hPB H0
       have H0 := Hn
       clear Hn
       clear hHeld
       refine hK.out _ _ (HM.out _ H0.low) (fun hHeld => ?_)
       clear hK K
       try simp only [pA, pB, pC]
       refine tlA #[true, true, true, true, true, true, true, true, true, true, false, false] ?_
       refine trA [10] ?_
       refine AllReadyH.cons (o := ⟨none, .store 44 (.tmp 9) (.tmp 37), 0, _, _, none⟩) rfl (fun K hK => ?_) AllReadyH.nil
       have H0 := H0.swap
       refine held_store_has (vs := [.int .i64 aid, .slice (some ⟨al, ao, none⟩) an ac, .int .i64 alv, .string acl, .string anm, .bool ast, .int .i64 awt, .int .i64 ads]) rfl rfl rfl rfl rfl H0 rfl (by kernel_rfl) (by simp [Value.oneCell']) ?_
       rintro WX Hn -
       clear H0
       have H0 := Hn
       clear Hn
       clear hHeld
       refine hK.out _ _ (HM.out _ H0.low) (fun hHeld => ?_)
       clear hK K
       try simp only [pA, pB, pC]
       refine tlA #[true, true, true, true, true, true, true, true, true, true, true, false] ?_
       refine trA [11] ?_
       refine AllReadyH.cons (o := ⟨none, .store 44 (.tmp 10) (.tmp 41), 0, _, _, none⟩) rfl (fun K hK => ?_) AllReadyH.nil
       have H0 := H0.swap
       refine held_store_has (vs := [.int .i64 bid, .slice (some ⟨bl, bo, none⟩) bn bc, .int .i64 blv, .string bcl, .string bnm, .bool bst, .int .i64 bwt, .int .i64 bds]) rfl rfl rfl rfl rfl H0 rfl (by kernel_rfl) (by simp [Value.oneCell']) ?_
       rintro WY Hn -
       clear H0
       have H0 := Hn
       clear Hn
       clear hHeld
       refine hK.out _ _ (HM.out _ H0.low) (fun hHeld => ?_)
       clear hK K
       try simp only [pA, pB, pC]
       refine tlA #[true, true, true, true, true, true, true, true, true, true, true, true] ?_
       refine wpAnyH_done (by kernel_rfl) ?_ _
       clear hHeld
       go_wp2_with fail
       go_meet
       exact ⟨PA, PB, rfl, rfl, Lib.hid H0⟩
      refine AllReadyH.cons (o := ⟨some 10, .alloc 44, 0, _, _, none⟩) rfl (fun K hK => ?_) AllReadyH.nil
      go_simp
      have Hn := H0.push [.int .i64 0, .slice none 0 0, .int .i64 0, .string { data := #[] }, .string { data := #[] }, .bool false, .int .i64 0, .int .i64 0] 44
      change Has wk _ (w0.alloc (.cells #[.int .i64 0, .slice none 0 0, .int .i64 0, .string { data := #[] }, .string { data := #[] }, .bool false, .int .i64 0, .int .i64 0] 44)) at Hn
      obtain ⟨PB, hPB⟩ : ∃ PB, w0.heap.size = PB := ⟨_, rfl⟩
      rw [hPB] at Hn ⊢
      generalize w0.alloc (.cells #[.int .i64 0, .slice none 0 0, .int .i64 0, .string { data := #[] }, .string { data := #[] }, .bool false, .int .i64 0, .int .i64 0] 44) = WA at *
      clear hPB H0
      have H0 := Hn
      clear Hn
      clear hHeld
      refine hK.out _ _ (HM.out _ H0.low) (fun hHeld => ?_)
      clear hK K
      try simp only [pA, pB, pC]
      refine tlA #[true, true, true, true, true, true, true, true, false, true, false, false] ?_
      refine trA [8] ?_
      refine AllReadyH.cons (o := ⟨some 9, .alloc 44, 0, _, _, none⟩) rfl (fun K hK => ?_) AllReadyH.nil
      go_simp
      have Hn := H0.push [.int .i64 0, .slice none 0 0, .int .i64 0, .string { data := #[] }, .string { data := #[] }, .bool false, .int .i64 0, .int .i64 0] 44
      change Has wk _ (WA.alloc (.cells #[.int .i64 0, .slice none 0 0, .int .i64 0, .string { data := #[] }, .string { data := #[] }, .bool false, .int .i64 0, .int .i64 0] 44)) at Hn
      obtain ⟨PA, hPA⟩ : ∃ PA, WA.heap.size = PA := ⟨_, rfl⟩
      rw [hPA] at Hn ⊢
      generalize WA.alloc (.cells #[.int .i64 0, .slice none 0 0, .int .i64 0, .string { data := #[] }, .string { data := #[] }, .bool false, .int .i64 0, .int .i64 0] 44) = WB at *
      clear hPA H0
      have H0 := Hn
      clear Hn
      clear hHeld
      refine hK.out _ _ (HM.out _ H0.low) (fun hHeld => ?_)
      clear hK K
      try simp only [pA, pB, pC]
      refine tlA #[true, true, true, true, true, true, true, true, true, true, false, false] ?_
      refine trA [10] ?_
      refine AllReadyH.cons (o := ⟨none, .store 44 (.tmp 9) (.tmp 37), 0, _, _, none⟩) rfl (fun K hK => ?_) AllReadyH.nil
      refine held_store_has (vs := [.int .i64 aid, .slice (some ⟨al, ao, none⟩) an ac, .int .i64 alv, .string acl, .string anm, .bool ast, .int .i64 awt, .int .i64 ads]) rfl rfl rfl rfl rfl H0 rfl (by kernel_rfl) (by simp [Value.oneCell']) ?_
      rintro WX Hn -
      clear H0
      have H0 := Hn
      clear Hn
      clear hHeld
      refine hK.out _ _ (HM.out _ H0.low) (fun hHeld => ?_)
      clear hK K
      try simp only [pA, pB, pC]
      refine tlA #[true, true, true, true, true, true, true, true, true, true, true, false] ?_
      refine trA [11] ?_
      refine AllReadyH.cons (o := ⟨none, .store 44 (.tmp 10) (.tmp 41), 0, _, _, none⟩) rfl (fun K hK => ?_) AllReadyH.nil
      have H0 := H0.swap
      refine held_store_has (vs := [.int .i64 bid, .slice (some ⟨bl, bo, none⟩) bn bc, .int .i64 blv, .string bcl, .string bnm, .bool bst, .int .i64 bwt, .int .i64 bds]) rfl rfl rfl rfl rfl H0 rfl (by kernel_rfl) (by simp [Value.oneCell']) ?_
      rintro WY Hn -
      clear H0
      have H0 := Hn
      clear Hn
      clear hHeld
      refine hK.out _ _ (HM.out _ H0.low) (fun hHeld => ?_)
      clear hK K
      try simp only [pA, pB, pC]
      refine tlA #[true, true, true, true, true, true, true, true, true, true, true, true] ?_
      refine wpAnyH_done (by kernel_rfl) ?_ _
      clear hHeld
      go_wp2_with fail
      go_meet
      exact ⟨PA, PB, rfl, rfl, Lib.hid H0⟩
     case rest =>
      obtain ⟨PA, PB, rfl, rfl, H⟩ := hcut
      clear HM
      go_wp2_with fail
      go_loopw [11] (fun x wx => ∃ q : Nat, q ≤ an ∧ x = .int .i64 q ∧ Hid (Has wk [(PB, [.int .i64 bid, .slice (some ⟨bl, bo, none⟩) bn bc, .int .i64 blv, .string bcl, .string bnm, .bool bst, .int .i64 bwt, .int .i64 bds]), (PA, [.int .i64 aid, .slice (some ⟨al, ao, none⟩) an ac, .int .i64 alv, .string acl, .string anm, .bool ast, .int .i64 awt, .int .i64 ads])] wx)) (fun x _ => an - (RowKit.intOf x).toNat)
      case atStart => exact ⟨0, Nat.zero_le _, rfl, H⟩
      case round =>
       clear H
       obtain ⟨q, hq, rfl, HP⟩ := hrel
       generalize wr = wn at *
       have p1 := HP.out.tail.fact (.head _) (i := 1) rfl
       have p2 := HP.out.tail.fact (.head _) (i := 2) rfl
       have q2 := HP.out.fact (.head _) (i := 2) rfl
       have HGn := Lib.hid (HGk.out.then HP.out.low)
       simp only [] at p1 p2 q2
       by_cases hqa : q < an
       ·have c1 : (q : Int) < an := by omega
        have bq : (0 : Int) ≤ q := by omega
        by_cases hlv : alv = blv
        ·have z1 : (alv == blv) = true := by rw [hlv]; simp
         have HC := Lib.hid (HCR.out hlv)
         clear hlv
         obtain ⟨⟨x, y⟩, hxy⟩ : ∃ p, aln[q]? = some p := ⟨_, List.getElem?_eq_getElem (by rw [HAL.out]; omega)⟩
         have HXY := Lib.hid (pt_of hxy)
         obtain ⟨e0, e1⟩ := HA.out q _ hxy
         replace e0 := (HGn.out.cell (World.block_lt_of_cell? _ _ e0)).trans e0
         replace e1 := (HGn.out.cell (World.block_lt_of_cell? _ _ e1)).trans e1
         simp only [] at e0 e1
         clear hxy
         have C0 := HP.out.push [.int .i64 0, .int .i64 0] 37
         go_wp2_with (refine wpList_store_has (vs := [.int .i64 x, .int .i64 y]) rfl rfl rfl ?_ ?_ C0 rfl (by kernel_rfl) (by simp [Value.oneCell']) ?_)
         ·rfl
         ·rfl
         rintro w4 C1 -
         obtain ⟨T, hT⟩ : ∃ T, wn.heap.size = T := ⟨_, rfl⟩
         rw [hT] at C1
         simp only [hT]
         have HT := Lib.hid C1
         clear C0 C1 e0 e1 p1 p2 q2 hT
         go_wp2_with fail
         go_loopw [13, 14] (fun o z wx => ∃ (j : Nat) (r : Bool), j + 1 ≤ bn ∧ o = .bool r ∧ z = .int .i64 j ∧ Hid (r = true → EndQ q an (x, y) bln) ∧ Hid (Has wk [(T, [.int .i64 x, .int .i64 y]), (PB, [.int .i64 bid, .slice (some ⟨bl, bo, none⟩) bn bc, .int .i64 blv, .string bcl, .string bnm, .bool bst, .int .i64 bwt, .int .i64 bds]), (PA, [.int .i64 aid, .slice (some ⟨al, ao, none⟩) an ac, .int .i64 alv, .string acl, .string anm, .bool ast, .int .i64 awt, .int .i64 ads])] wx)) (fun _ z _ => bn - (RowKit.intOf z).toNat)
         case atStart => exact ⟨0, false, by omega, rfl, rfl, Lib.hid (fun h => by cases h), HT⟩
         case round =>
          clear HT
          obtain ⟨j, r, hj, rfl, rfl, HE, HT⟩ := hrel
          generalize wr = wm at *
          have q1 := HT.out.tail.fact (.head _) (i := 1) rfl
          simp only [] at q1
          have jw : IntKind.i64.wrap ((j : Int) + 1) = (j : Int) + 1 := by rw [IntKind.wrap_i64]; omega
          by_cases hjb : j + 1 < bn
          ·have d1 : (j : Int) + 1 < bn := by omega
           have d2 : (0 : Int) ≤ j := by omega
           have d3 : (j : Int) < bn := by omega
           have d4 : (0 : Int) ≤ (j : Int) + 1 := by omega
           have jn1 : ((j : Int) + 1).toNat = j + 1 := by omega
           obtain ⟨⟨x2, y2⟩, hx2⟩ : ∃ p, bln[j]? = some p := ⟨_, List.getElem?_eq_getElem (by rw [HBL.out]; omega)⟩
           obtain ⟨⟨x3, y3⟩, hx3⟩ : ∃ p, bln[j + 1]? = some p := ⟨_, List.getElem?_eq_getElem (by rw [HBL.out]; omega)⟩
           have HQ2 := Lib.hid (show ∀ wx, Grows wk wx → wx.cell? ⟨bl, bo + j * 2, none⟩ = some (.int .i64 x2) ∧ wx.cell? ⟨bl, bo + j * 2 + 1, none⟩ = some (.int .i64 y2) from HBW.out j _ hx2)
           have HQ3 := Lib.hid (show ∀ wx, Grows wk wx → wx.cell? ⟨bl, bo + (j + 1) * 2, none⟩ = some (.int .i64 x3) ∧ wx.cell? ⟨bl, bo + (j + 1) * 2 + 1, none⟩ = some (.int .i64 y3) from HBW.out (j + 1) _ hx3)
           obtain ⟨ro, hro⟩ : ∃ ro, onOf x2 y2 x3 y3 x y = ro := ⟨_, rfl⟩
           have HON := Lib.hid hro
           have HEn := Lib.hid (show ro = true → EndQ q an (x, y) bln from fun h => by
            have := fine_on HRA.out HRB.out HSA.out (by rw [HAL.out]; omega) HC.out (n := q) (j := j) (by rw [HAL.out]; exact hqa) (by rw [HBL.out]; exact hjb) (by rw [pt_of hx2, pt_of hx3, HXY.out]; exact hro.trans h)
            rw [HAL.out, HXY.out] at this
            exact this)
           clear hx2 hx3 hro
           cases r
           ·clear HE
            have HS2 := Lib.hid (show ∀ wx, Has wk [(T, [.int .i64 x, .int .i64 y]), (PB, [.int .i64 bid, .slice (some ⟨bl, bo, none⟩) bn bc, .int .i64 blv, .string bcl, .string bnm, .bool bst, .int .i64 bwt, .int .i64 bds]), (PA, [.int .i64 aid, .slice (some ⟨al, ao, none⟩) an ac, .int .i64 alv, .string acl, .string anm, .bool ast, .int .i64 awt, .int .i64 ads])] wx → (wx.cell? ⟨PB, 1, none⟩ = some (.slice (some ⟨bl, bo, none⟩) bn bc) ∧ wx.cell? ⟨T, 0, none⟩ = some (.int .i64 x) ∧ wx.cell? ⟨T, 1, none⟩ = some (.int .i64 y) ∧ wx.cell? ⟨bl, bo + j * 2, none⟩ = some (.int .i64 x2) ∧ wx.cell? ⟨bl, bo + j * 2 + 1, none⟩ = some (.int .i64 y2) ∧ wx.cell? ⟨bl, bo + (j + 1) * 2, none⟩ = some (.int .i64 x3) ∧ wx.cell? ⟨bl, bo + (j + 1) * 2 + 1, none⟩ = some (.int .i64 y3)) ∧ Has wk [(T, [.int .i64 x, .int .i64 y]), (PB, [.int .i64 bid, .slice (some ⟨bl, bo, none⟩) bn bc, .int .i64 blv, .string bcl, .string bnm, .bool bst, .int .i64 bwt, .int .i64 bds]), (PA, [.int .i64 aid, .slice (some ⟨al, ao, none⟩) an ac, .int .i64 alv, .string acl, .string anm, .bool ast, .int .i64 awt, .int .i64 ads])] wx from fun wx h => ⟨⟨h.tail.fact (.head _) (i := 1) rfl, h.fact (.head _) (i := 0) rfl, h.fact (.head _) (i := 1) rfl, (HQ2.out _ h.low).1, (HQ2.out _ h.low).2, (HQ3.out _ h.low).1, (HQ3.out _ h.low).2⟩, h⟩)
            go_upto_region 20 with fail
            have X0 := HT.out.drew
            refine wp_region_held_drew (S := (fun wx => (wx.cell? ⟨PB, 1, none⟩ = some (.slice (some ⟨bl, bo, none⟩) bn bc) ∧ wx.cell? ⟨T, 0, none⟩ = some (.int .i64 x) ∧ wx.cell? ⟨T, 1, none⟩ = some (.int .i64 y) ∧ wx.cell? ⟨bl, bo + j * 2, none⟩ = some (.int .i64 x2) ∧ wx.cell? ⟨bl, bo + j * 2 + 1, none⟩ = some (.int .i64 y2) ∧ wx.cell? ⟨bl, bo + (j + 1) * 2, none⟩ = some (.int .i64 x3) ∧ wx.cell? ⟨bl, bo + (j + 1) * 2 + 1, none⟩ = some (.int .i64 y3)) ∧ Has wk [(T, [.int .i64 x, .int .i64 y]), (PB, [.int .i64 bid, .slice (some ⟨bl, bo, none⟩) bn bc, .int .i64 blv, .string bcl, .string bnm, .bool bst, .int .i64 bwt, .int .i64 bds]), (PA, [.int .i64 aid, .slice (some ⟨al, ao, none⟩) an ac, .int .i64 alv, .string acl, .string anm, .bool ast, .int .i64 awt, .int .i64 ads])] wx)) (by kernel_rfl) (HS2.out _ X0) (fun hHeld => ?_)
            generalize wm.drew = v0 at *
            clear HT q1
            refine tbA [0, 1, 2, 3, 4, 5, 6] ?_
            refine tkA (.bool false) (oi := ⟨some 69, .move (.tmp 13), 4, _, _, none⟩) ?_
            simp only [Act.put, pA, pB, pC]
            refine tkA (.bool false) (oi := ⟨some 70, .move (.tmp 69), 4, _, _, none⟩) ?_
            simp only [Act.put, pA, pB, pC]
            refine tkA (.pointer (some ⟨PB, 1, none⟩)) (oi := ⟨some 71, .fieldAddr 44 (.tmp 10) 1, 0, _, _, some (1, false)⟩) ?_
            simp only [Act.put, pA, pB, pC]
            refine tkA (.slice (some ⟨bl, bo, none⟩) bn bc) (oi := ⟨some 72, .load 42 (.tmp 71), 42, _, _, some (1, false)⟩) ?_
            simp only [Act.put, pA, pB, pC]
            refine tkA (.int .i64 j) (oi := ⟨some 73, .move (.tmp 14), 3, _, _, some (1, false)⟩) ?_
            simp only [Act.put, pA, pB, pC]
            refine tkA (.pointer (some ⟨bl, bo + j * 2, none⟩)) (oi := ⟨some 74, .indexAddr 42 (.tmp 72) (.tmp 73), 0, _, _, some (1, false)⟩) ?_
            simp only [Act.put, pA, pB, pC]
            refine tkA (.agg #[.int .i64 x2, .int .i64 y2]) (oi := ⟨some 75, .load 37 (.tmp 74), 37, _, _, some (1, false)⟩) ?_
            simp only [Act.put, pA, pB, pC]
            refine teA ?_
            refine tlA #[true, true, true, true, true, true, true, false, false, false, false, false, false, false, false, false, false] ?_
            refine tbA [7, 8, 9, 10, 11, 12, 13] ?_
            refine tkA (.pointer (some ⟨PB, 1, none⟩)) (oi := ⟨some 76, .fieldAddr 44 (.tmp 10) 1, 0, _, _, some (1, false)⟩) ?_
            simp only [Act.put, pA, pB, pC]
            refine tkA (.slice (some ⟨bl, bo, none⟩) bn bc) (oi := ⟨some 77, .load 42 (.tmp 76), 42, _, _, some (1, false)⟩) ?_
            simp only [Act.put, pA, pB, pC]
            refine tkA (.int .i64 j) (oi := ⟨some 78, .move (.tmp 14), 3, _, _, some (1, false)⟩) ?_
            simp only [Act.put, pA, pB, pC]
            refine tkA (.int .i64 ((j : Int) + 1)) (oi := ⟨some 79, .binOp .add 3 (.tmp 78) (.const (.int .i64 1)) 3, 3, _, _, some (1, false)⟩) ?_
            simp only [Act.put, pA, pB, pC]
            refine tkA (.pointer (some ⟨bl, bo + (j + 1) * 2, none⟩)) (oi := ⟨some 80, .indexAddr 42 (.tmp 77) (.tmp 79), 0, _, _, some (1, false)⟩) ?_
            simp only [Act.put, pA, pB, pC]
            refine tkA (.agg #[.int .i64 x3, .int .i64 y3]) (oi := ⟨some 81, .load 37 (.tmp 80), 37, _, _, some (1, false)⟩) ?_
            simp only [Act.put, pA, pB, pC]
            refine tkA (.agg #[.int .i64 x, .int .i64 y]) (oi := ⟨some 82, .load 37 (.tmp 12), 37, _, _, some (1, false)⟩) ?_
            simp only [Act.put, pA, pB, pC]
            refine teA ?_
            refine tlA #[true, true, true, true, true, true, true, true, true, true, true, true, true, true, false, false, false] ?_
            refine trA [14] ?_
            refine AllReadyH.cons (o := ⟨some 83, .call { callee := .value (.func 24), args := #[.tmp 75, .tmp 81, .tmp 82], argTypes := #[37, 37, 37] }, 4, _, _, some (1, false)⟩) rfl (fun K hK => ?_) AllReadyH.nil
            go_simp
            go_at_call 24
            refine (Has.call X0 (on_is _ _ _ _ _ _ ro HON.out _)).mono ?_
            rintro e v1 ⟨rfl, X1⟩
            go_wp2_with fail
            clear hHeld
            refine hK.out _ _ (HS2.out _ X1) (fun hHeld => ?_)
            clear hK K
            try simp only [pA, pB, pC]
            refine tlA #[true, true, true, true, true, true, true, true, true, true, true, true, true, true, true, false, false] ?_
            clear X0
            refine tbA [15, 16] ?_
            refine tkA (.bool ro) (oi := ⟨some 84, .pick (.tmp 70) (.const (.bool true)) (.tmp 83), 4, _, _, none⟩) ?_
            simp only [Act.put, pA, pB, pC]
            refine tkA (.bool ro) (oi := ⟨some 13, .assign (.tmp 84), 4, _, _, none⟩) ?_
            simp only [Act.put, pA, pB, pC]
            refine teA ?_
            refine tlA #[true, true, true, true, true, true, true, true, true, true, true, true, true, true, true, true, true] ?_
            refine wpAnyH_done (by kernel_rfl) ?_ _
            clear hHeld HS2
            have HT := Lib.hid X1
            clear X1
            go_wp2_with fail
            go_roundw
            case rel => exact ⟨j + 1, ro, by omega, rfl, by go_num, HEn, HT⟩
            case measure => simp [RowKit.intOf]; omega
           ·have HEt := Lib.hid (HE.out rfl)
            clear HE HEn HON
            have HS2 := Lib.hid (show ∀ wx, Has wk [(T, [.int .i64 x, .int .i64 y]), (PB, [.int .i64 bid, .slice (some ⟨bl, bo, none⟩) bn bc, .int .i64 blv, .string bcl, .string bnm, .bool bst, .int .i64 bwt, .int .i64 bds]), (PA, [.int .i64 aid, .slice (some ⟨al, ao, none⟩) an ac, .int .i64 alv, .string acl, .string anm, .bool ast, .int .i64 awt, .int .i64 ads])] wx → (wx.cell? ⟨PB, 1, none⟩ = some (.slice (some ⟨bl, bo, none⟩) bn bc) ∧ wx.cell? ⟨T, 0, none⟩ = some (.int .i64 x) ∧ wx.cell? ⟨T, 1, none⟩ = some (.int .i64 y) ∧ wx.cell? ⟨bl, bo + j * 2, none⟩ = some (.int .i64 x2) ∧ wx.cell? ⟨bl, bo + j * 2 + 1, none⟩ = some (.int .i64 y2) ∧ wx.cell? ⟨bl, bo + (j + 1) * 2, none⟩ = some (.int .i64 x3) ∧ wx.cell? ⟨bl, bo + (j + 1) * 2 + 1, none⟩ = some (.int .i64 y3)) ∧ Has wk [(T, [.int .i64 x, .int .i64 y]), (PB, [.int .i64 bid, .slice (some ⟨bl, bo, none⟩) bn bc, .int .i64 blv, .string bcl, .string bnm, .bool bst, .int .i64 bwt, .int .i64 bds]), (PA, [.int .i64 aid, .slice (some ⟨al, ao, none⟩) an ac, .int .i64 alv, .string acl, .string anm, .bool ast, .int .i64 awt, .int .i64 ads])] wx from fun wx h => ⟨⟨h.tail.fact (.head _) (i := 1) rfl, h.fact (.head _) (i := 0) rfl, h.fact (.head _) (i := 1) rfl, (HQ2.out _ h.low).1, (HQ2.out _ h.low).2, (HQ3.out _ h.low).1, (HQ3.out _ h.low).2⟩, h⟩)
            go_upto_region 20 with fail
            have X0 := HT.out.drew
            refine wp_region_held_drew (S := (fun wx => (wx.cell? ⟨PB, 1, none⟩ = some (.slice (some ⟨bl, bo, none⟩) bn bc) ∧ wx.cell? ⟨T, 0, none⟩ = some (.int .i64 x) ∧ wx.cell? ⟨T, 1, none⟩ = some (.int .i64 y) ∧ wx.cell? ⟨bl, bo + j * 2, none⟩ = some (.int .i64 x2) ∧ wx.cell? ⟨bl, bo + j * 2 + 1, none⟩ = some (.int .i64 y2) ∧ wx.cell? ⟨bl, bo + (j + 1) * 2, none⟩ = some (.int .i64 x3) ∧ wx.cell? ⟨bl, bo + (j + 1) * 2 + 1, none⟩ = some (.int .i64 y3)) ∧ Has wk [(T, [.int .i64 x, .int .i64 y]), (PB, [.int .i64 bid, .slice (some ⟨bl, bo, none⟩) bn bc, .int .i64 blv, .string bcl, .string bnm, .bool bst, .int .i64 bwt, .int .i64 bds]), (PA, [.int .i64 aid, .slice (some ⟨al, ao, none⟩) an ac, .int .i64 alv, .string acl, .string anm, .bool ast, .int .i64 awt, .int .i64 ads])] wx)) (by kernel_rfl) (HS2.out _ X0) (fun hHeld => ?_)
            generalize wm.drew = v0 at *
            clear HT q1
            refine tbA [0, 1, 2, 3, 4, 5, 6, 7, 8, 9, 10, 11, 12, 13, 14] ?_
            refine tkA (.bool true) (oi := ⟨some 69, .move (.tmp 13), 4, _, _, none⟩) ?_
            simp only [Act.put, pA, pB, pC]
            refine tkA (.bool true) (oi := ⟨some 70, .move (.tmp 69), 4, _, _, none⟩) ?_
            simp only [Act.put, pA, pB, pC]
            refine wpAnyT_skip (oi := ⟨some 71, .fieldAddr 44 (.tmp 10) 1, 0, _, _, some (1, false)⟩) rfl (fun _ _ _ h => h) (by rfl) (by assumption) ?_
            simp only [Act.put, pA, pB, pC]
            refine wpAnyT_skip (oi := ⟨some 72, .load 42 (.tmp 71), 42, _, _, some (1, false)⟩) rfl (fun _ _ _ h => h) (by rfl) (by assumption) ?_
            simp only [Act.put, pA, pB, pC]
            refine wpAnyT_skip (oi := ⟨some 73, .move (.tmp 14), 3, _, _, some (1, false)⟩) rfl (fun _ _ _ h => h) (by rfl) (by assumption) ?_
            simp only [Act.put, pA, pB, pC]
            refine wpAnyT_skip (oi := ⟨some 74, .indexAddr 42 (.tmp 72) (.tmp 73), 0, _, _, some (1, false)⟩) rfl (fun _ _ _ h => h) (by rfl) (by assumption) ?_
            simp only [Act.put, pA, pB, pC]
            refine wpAnyT_skip (oi := ⟨some 75, .load 37 (.tmp 74), 37, _, _, some (1, false)⟩) rfl (fun _ _ _ h => h) (by rfl) (by assumption) ?_
            simp only [Act.put, pA, pB, pC]
            refine wpAnyT_skip (oi := ⟨some 76, .fieldAddr 44 (.tmp 10) 1, 0, _, _, some (1, false)⟩) rfl (fun _ _ _ h => h) (by rfl) (by assumption) ?_
            simp only [Act.put, pA, pB, pC]
            refine wpAnyT_skip (oi := ⟨some 77, .load 42 (.tmp 76), 42, _, _, some (1, false)⟩) rfl (fun _ _ _ h => h) (by rfl) (by assumption) ?_
            simp only [Act.put, pA, pB, pC]
            refine wpAnyT_skip (oi := ⟨some 78, .move (.tmp 14), 3, _, _, some (1, false)⟩) rfl (fun _ _ _ h => h) (by rfl) (by assumption) ?_
            simp only [Act.put, pA, pB, pC]
            refine wpAnyT_skip (oi := ⟨some 79, .binOp .add 3 (.tmp 78) (.const (.int .i64 1)) 3, 3, _, _, some (1, false)⟩) rfl (fun _ _ _ h => h) (by rfl) (by assumption) ?_
            simp only [Act.put, pA, pB, pC]
            refine wpAnyT_skip (oi := ⟨some 80, .indexAddr 42 (.tmp 77) (.tmp 79), 0, _, _, some (1, false)⟩) rfl (fun _ _ _ h => h) (by rfl) (by assumption) ?_
            simp only [Act.put, pA, pB, pC]
            refine wpAnyT_skip (oi := ⟨some 81, .load 37 (.tmp 80), 37, _, _, some (1, false)⟩) rfl (fun _ _ _ h => h) (by rfl) (by assumption) ?_
            simp only [Act.put, pA, pB, pC]
            refine wpAnyT_skip (oi := ⟨some 82, .load 37 (.tmp 12), 37, _, _, some (1, false)⟩) rfl (fun _ _ _ h => h) (by rfl) (by assumption) ?_
            simp only [Act.put, pA, pB, pC]
            refine wpAnyT_skip (oi := ⟨some 83, .call { callee := .value (.func 24), args := #[.tmp 75, .tmp 81, .tmp 82], argTypes := #[37, 37, 37] }, 4, _, _, some (1, false)⟩) rfl (fun _ _ _ h => h) (by rfl) (by assumption) ?_
            simp only [Act.put, pA, pB, pC]
            refine teA ?_
            refine tlA #[true, true, true, true, true, true, true, true, true, true, true, true, true, true, true, false, false] ?_
            refine tbA [15, 16] ?_
            refine tkA (.bool true) (oi := ⟨some 84, .pick (.tmp 70) (.const (.bool true)) (.tmp 83), 4, _, _, none⟩) ?_
            simp only [Act.put, pA, pB, pC]
            refine tkA (.bool true) (oi := ⟨some 13, .assign (.tmp 84), 4, _, _, none⟩) ?_
            simp only [Act.put, pA, pB, pC]
            refine teA ?_
            refine tlA #[true, true, true, true, true, true, true, true, true, true, true, true, true, true, true, true, true] ?_
            refine wpAnyH_done (by kernel_rfl) ?_ _
            clear hHeld HS2
            have HT := Lib.hid X0
            clear X0
            go_wp2_with fail
            go_roundw
            case rel => exact ⟨j + 1, true, by omega, rfl, by go_num, Lib.hid (fun _ => HEt.out), HT⟩
            case measure => simp [RowKit.intOf]; omega
          ·have d1 : ¬ (j : Int) + 1 < bn := by omega
           have eb : (bn : Int) - 1 = (j : Int) := by omega
           have lw : IntKind.i64.wrap (j : Int) = (j : Int) := by rw [IntKind.wrap_i64]; omega
           have qw : IntKind.i64.wrap ((q : Int) + 1) = (q : Int) + 1 := by rw [IntKind.wrap_i64]; omega
           have d2 : (0 : Int) ≤ j := by omega
           have d3 : (j : Int) < bn := by omega
           have d5 : (0 : Int) < bn := by omega
           have d6 : 0 < bn := by omega
           have d7 : ¬ bn = 0 := by omega
           obtain ⟨⟨x2, y2⟩, hx2⟩ : ∃ p, bln[0]? = some p := ⟨_, List.getElem?_eq_getElem (by rw [HBL.out]; omega)⟩
           obtain ⟨⟨x3, y3⟩, hx3⟩ : ∃ p, bln[j]? = some p := ⟨_, List.getElem?_eq_getElem (by rw [HBL.out]; omega)⟩
           have HQ2 := Lib.hid (show ∀ wx, Grows wk wx → wx.cell? ⟨bl, bo, none⟩ = some (.int .i64 x2) ∧ wx.cell? ⟨bl, bo + 1, none⟩ = some (.int .i64 y2) from fun wx hg => by
            have := HBW.out 0 _ hx2 wx hg
            rw [Nat.zero_mul, Nat.add_zero] at this
            exact this)
           have HQ3 := Lib.hid (show ∀ wx, Grows wk wx → wx.cell? ⟨bl, bo + j * 2, none⟩ = some (.int .i64 x3) ∧ wx.cell? ⟨bl, bo + j * 2 + 1, none⟩ = some (.int .i64 y3) from HBW.out j _ hx3)
           have HEE := Lib.hid (show r = true → (q = 0 ∨ q + 1 = an) ∧ ((x, y) = (x2, y2) ∨ (x, y) = (x3, y3)) from fun h => by
            have := HE.out h
            unfold EndQ at this
            rw [pt_of hx2, HBL.out, show bn - 1 = j by omega, pt_of hx3] at this
            exact this)
           clear hx2 hx3 HE
           go_upto_region 21 with fail
           go_cut [117] (fun v wx => v = .bool false ∧ Hid (Has wk [(T, [.int .i64 x, .int .i64 y]), (PB, [.int .i64 bid, .slice (some ⟨bl, bo, none⟩) bn bc, .int .i64 blv, .string bcl, .string bnm, .bool bst, .int .i64 bwt, .int .i64 bds]), (PA, [.int .i64 aid, .slice (some ⟨al, ao, none⟩) an ac, .int .i64 alv, .string acl, .string anm, .bool ast, .int .i64 awt, .int .i64 ads])] wx))
           case first =>
            cases r
            ·clear HEE
             have HS2 := Lib.hid (show ∀ wx, Has wk [(T, [.int .i64 x, .int .i64 y]), (PB, [.int .i64 bid, .slice (some ⟨bl, bo, none⟩) bn bc, .int .i64 blv, .string bcl, .string bnm, .bool bst, .int .i64 bwt, .int .i64 bds]), (PA, [.int .i64 aid, .slice (some ⟨al, ao, none⟩) an ac, .int .i64 alv, .string acl, .string anm, .bool ast, .int .i64 awt, .int .i64 ads])] wx → (wx.cell? ⟨PA, 1, none⟩ = some (.slice (some ⟨al, ao, none⟩) an ac) ∧ wx.cell? ⟨PB, 1, none⟩ = some (.slice (some ⟨bl, bo, none⟩) bn bc) ∧ wx.cell? ⟨T, 0, none⟩ = some (.int .i64 x) ∧ wx.cell? ⟨T, 1, none⟩ = some (.int .i64 y) ∧ wx.cell? ⟨bl, bo, none⟩ = some (.int .i64 x2) ∧ wx.cell? ⟨bl, bo + 1, none⟩ = some (.int .i64 y2) ∧ wx.cell? ⟨bl, bo + j * 2, none⟩ = some (.int .i64 x3) ∧ wx.cell? ⟨bl, bo + j * 2 + 1, none⟩ = some (.int .i64 y3)) ∧ Has wk [(T, [.int .i64 x, .int .i64 y]), (PB, [.int .i64 bid, .slice (some ⟨bl, bo, none⟩) bn bc, .int .i64 blv, .string bcl, .string bnm, .bool bst, .int .i64 bwt, .int .i64 bds]), (PA, [.int .i64 aid, .slice (some ⟨al, ao, none⟩) an ac, .int .i64 alv, .string acl, .string anm, .bool ast, .int .i64 awt, .int .i64 ads])] wx from fun wx h => ⟨⟨h.tail.tail.fact (.head _) (i := 1) rfl, h.tail.fact (.head _) (i := 1) rfl, h.fact (.head _) (i := 0) rfl, h.fact (.head _) (i := 1) rfl, (HQ2.out _ h.low).1, (HQ2.out _ h.low).2, (HQ3.out _ h.low).1, (HQ3.out _ h.low).2⟩, h⟩)
             have X0 := HT.out.drew
             refine wp_region_held_drew (S := (fun wx => (wx.cell? ⟨PA, 1, none⟩ = some (.slice (some ⟨al, ao, none⟩) an ac) ∧ wx.cell? ⟨PB, 1, none⟩ = some (.slice (some ⟨bl, bo, none⟩) bn bc) ∧ wx.cell? ⟨T, 0, none⟩ = some (.int .i64 x) ∧ wx.cell? ⟨T, 1, none⟩ = some (.int .i64 y) ∧ wx.cell? ⟨bl, bo, none⟩ = some (.int .i64 x2) ∧ wx.cell? ⟨bl, bo + 1, none⟩ = some (.int .i64 y2) ∧ wx.cell? ⟨bl, bo + j * 2, none⟩ = some (.int .i64 x3) ∧ wx.cell? ⟨bl, bo + j * 2 + 1, none⟩ = some (.int .i64 y3)) ∧ Has wk [(T, [.int .i64 x, .int .i64 y]), (PB, [.int .i64 bid, .slice (some ⟨bl, bo, none⟩) bn bc, .int .i64 blv, .string bcl, .string bnm, .bool bst, .int .i64 bwt, .int .i64 bds]), (PA, [.int .i64 aid, .slice (some ⟨al, ao, none⟩) an ac, .int .i64 alv, .string acl, .string anm, .bool ast, .int .i64 awt, .int .i64 ads])] wx)) (by kernel_rfl) (HS2.out _ X0) (fun hHeld => ?_)
             generalize wm.drew = v0 at *
             clear HT q1
             refine tbA [0, 1, 2, 3, 4, 5, 6, 7, 8, 9, 10, 11, 12, 13, 14, 15, 16, 17, 18, 19, 20, 21, 22, 23, 24, 25, 26, 27, 28, 29, 30, 31, 32] ?_
             refine tkA (.bool false) (oi := ⟨some 85, .move (.tmp 13), 4, _, _, none⟩) ?_
             simp only [Act.put, pA, pB, pC]
             refine tkA (.bool false) (oi := ⟨some 86, .move (.tmp 85), 4, _, _, none⟩) ?_
             simp only [Act.put, pA, pB, pC]
             refine wpAnyT_skip (oi := ⟨some 87, .move (.tmp 11), 3, _, _, some (1, true)⟩) rfl (fun _ _ _ h => h) (by rfl) (by assumption) ?_
             simp only [Act.put, pA, pB, pC]
             refine wpAnyT_skip (oi := ⟨some 88, .binOp .gtr 3 (.tmp 87) (.const (.int .i64 0)) 3, 4, _, _, some (1, true)⟩) rfl (fun _ _ _ h => h) (by rfl) (by assumption) ?_
             simp only [Act.put, pA, pB, pC]
             refine wpAnyT_skip (oi := ⟨some 89, .move (.tmp 88), 4, _, _, some (1, true)⟩) rfl (fun _ _ _ h => h) (by rfl) (by assumption) ?_
             simp only [Act.put, pA, pB, pC]
             refine wpAnyT_skip (oi := ⟨some 90, .move (.tmp 11), 3, _, _, some (4, true)⟩) rfl (fun _ _ _ h => h) (by rfl) (by assumption) ?_
             simp only [Act.put, pA, pB, pC]
             refine wpAnyT_skip (oi := ⟨some 91, .binOp .add 3 (.tmp 90) (.const (.int .i64 1)) 3, 3, _, _, some (4, true)⟩) rfl (fun _ _ _ h => h) (by rfl) (by assumption) ?_
             simp only [Act.put, pA, pB, pC]
             refine wpAnyT_skip (oi := ⟨some 92, .fieldAddr 44 (.tmp 9) 1, 0, _, _, some (4, true)⟩) rfl (fun _ _ _ h => h) (by rfl) (by assumption) ?_
             simp only [Act.put, pA, pB, pC]
             refine wpAnyT_skip (oi := ⟨some 93, .load 42 (.tmp 92), 42, _, _, some (4, true)⟩) rfl (fun _ _ _ h => h) (by rfl) (by assumption) ?_
             simp only [Act.put, pA, pB, pC]
             refine wpAnyT_skip (oi := ⟨some 94, .call { callee := .builtin .len, args := #[.tmp 93], argTypes := #[42] }, 3, _, _, some (4, true)⟩) rfl (fun _ _ _ h => h) (by rfl) (by assumption) ?_
             simp only [Act.put, pA, pB, pC]
             refine wpAnyT_skip (oi := ⟨some 95, .binOp .lss 3 (.tmp 91) (.tmp 94) 3, 4, _, _, some (4, true)⟩) rfl (fun _ _ _ h => h) (by rfl) (by assumption) ?_
             simp only [Act.put, pA, pB, pC]
             refine wpAnyT_skip (oi := ⟨some 96, .pick (.tmp 89) (.tmp 95) (.const (.bool false)), 4, _, _, some (1, true)⟩) rfl (fun _ _ _ h => h) (by rfl) (by assumption) ?_
             simp only [Act.put, pA, pB, pC]
             refine wpAnyT_skip (oi := ⟨some 97, .move (.tmp 96), 4, _, _, some (1, true)⟩) rfl (fun _ _ _ h => h) (by rfl) (by assumption) ?_
             simp only [Act.put, pA, pB, pC]
             refine wpAnyT_skip (oi := ⟨some 98, .load 37 (.tmp 12), 37, _, _, some (12, false)⟩) rfl (fun _ _ _ h => h) (by rfl) (by assumption) ?_
             simp only [Act.put, pA, pB, pC]
             refine wpAnyT_skip (oi := ⟨some 99, .fieldAddr 44 (.tmp 10) 1, 0, _, _, some (12, false)⟩) rfl (fun _ _ _ h => h) (by rfl) (by assumption) ?_
             simp only [Act.put, pA, pB, pC]
             refine wpAnyT_skip (oi := ⟨some 100, .load 42 (.tmp 99), 42, _, _, some (12, false)⟩) rfl (fun _ _ _ h => h) (by rfl) (by assumption) ?_
             simp only [Act.put, pA, pB, pC]
             refine wpAnyT_skip (oi := ⟨some 101, .indexAddr 42 (.tmp 100) (.const (.int .i64 0)), 0, _, _, some (12, false)⟩) rfl (fun _ _ _ h => h) (by rfl) (by assumption) ?_
             simp only [Act.put, pA, pB, pC]
             refine wpAnyT_skip (oi := ⟨some 102, .load 37 (.tmp 101), 37, _, _, some (12, false)⟩) rfl (fun _ _ _ h => h) (by rfl) (by assumption) ?_
             simp only [Act.put, pA, pB, pC]
             refine wpAnyT_skip (oi := ⟨some 103, .binOp .neq 37 (.tmp 98) (.tmp 102) 37, 4, _, _, some (12, false)⟩) rfl (fun _ _ _ h => h) (by rfl) (by assumption) ?_
             simp only [Act.put, pA, pB, pC]
             refine wpAnyT_skip (oi := ⟨some 104, .move (.tmp 103), 4, _, _, some (12, false)⟩) rfl (fun _ _ _ h => h) (by rfl) (by assumption) ?_
             simp only [Act.put, pA, pB, pC]
             refine wpAnyT_skip (oi := ⟨some 105, .load 37 (.tmp 12), 37, _, _, some (19, true)⟩) rfl (fun _ _ _ h => h) (by rfl) (by assumption) ?_
             simp only [Act.put, pA, pB, pC]
             refine wpAnyT_skip (oi := ⟨some 106, .fieldAddr 44 (.tmp 10) 1, 0, _, _, some (19, true)⟩) rfl (fun _ _ _ h => h) (by rfl) (by assumption) ?_
             simp only [Act.put, pA, pB, pC]
             refine wpAnyT_skip (oi := ⟨some 107, .load 42 (.tmp 106), 42, _, _, some (19, true)⟩) rfl (fun _ _ _ h => h) (by rfl) (by assumption) ?_
             simp only [Act.put, pA, pB, pC]
             refine wpAnyT_skip (oi := ⟨some 108, .fieldAddr 44 (.tmp 10) 1, 0, _, _, some (19, true)⟩) rfl (fun _ _ _ h => h) (by rfl) (by assumption) ?_
             simp only [Act.put, pA, pB, pC]
             refine wpAnyT_skip (oi := ⟨some 109, .load 42 (.tmp 108), 42, _, _, some (19, true)⟩) rfl (fun _ _ _ h => h) (by rfl) (by assumption) ?_
             simp only [Act.put, pA, pB, pC]
             refine wpAnyT_skip (oi := ⟨some 110, .call { callee := .builtin .len, args := #[.tmp 109], argTypes := #[42] }, 3, _, _, some (19, true)⟩) rfl (fun _ _ _ h => h) (by rfl) (by assumption) ?_
             simp only [Act.put, pA, pB, pC]
             refine wpAnyT_skip (oi := ⟨some 111, .binOp .sub 3 (.tmp 110) (.const (.int .i64 1)) 3, 3, _, _, some (19, true)⟩) rfl (fun _ _ _ h => h) (by rfl) (by assumption) ?_
             simp only [Act.put, pA, pB, pC]
             refine wpAnyT_skip (oi := ⟨some 112, .indexAddr 42 (.tmp 107) (.tmp 111), 0, _, _, some (19, true)⟩) rfl (fun _ _ _ h => h) (by rfl) (by assumption) ?_
             simp only [Act.put, pA, pB, pC]
             refine wpAnyT_skip (oi := ⟨some 113, .load 37 (.tmp 112), 37, _, _, some (19, true)⟩) rfl (fun _ _ _ h => h) (by rfl) (by assumption) ?_
             simp only [Act.put, pA, pB, pC]
             refine wpAnyT_skip (oi := ⟨some 114, .binOp .neq 37 (.tmp 105) (.tmp 113) 37, 4, _, _, some (19, true)⟩) rfl (fun _ _ _ h => h) (by rfl) (by assumption) ?_
             simp only [Act.put, pA, pB, pC]
             refine wpAnyT_skip (oi := ⟨some 115, .pick (.tmp 104) (.tmp 114) (.const (.bool false)), 4, _, _, some (12, false)⟩) rfl (fun _ _ _ h => h) (by rfl) (by assumption) ?_
             simp only [Act.put, pA, pB, pC]
             refine wpAnyT_skip (oi := ⟨some 116, .pick (.tmp 97) (.const (.bool true)) (.tmp 115), 4, _, _, some (1, true)⟩) rfl (fun _ _ _ h => h) (by rfl) (by assumption) ?_
             simp only [Act.put, pA, pB, pC]
             refine tkA (.bool false) (oi := ⟨some 117, .pick (.tmp 86) (.tmp 116) (.const (.bool false)), 4, _, _, none⟩) ?_
             simp only [Act.put, pA, pB, pC]
             refine teA ?_
             refine tlA #[true, true, true, true, true, true, true, true, true, true, true, true, true, true, true, true, true, true, true, true, true, true, true, true, true, true, true, true, true, true, true, true, true] ?_
             refine wpAnyH_done (by kernel_rfl) ?_ _
             clear hHeld HS2
             go_wp2_with fail
             go_meet
             exact ⟨rfl, Lib.hid X0⟩
            ·obtain ⟨eq1, eq2⟩ := HEE.out rfl
             clear HEE
             by_cases hq0 : q = 0
             ·subst hq0
              clear eq1
              by_cases hf : (x, y) = (x2, y2)
              ·cases hf
               clear eq2
               have HS2 := Lib.hid (show ∀ wx, Has wk [(T, [.int .i64 x, .int .i64 y]), (PB, [.int .i64 bid, .slice (some ⟨bl, bo, none⟩) bn bc, .int .i64 blv, .string bcl, .string bnm, .bool bst, .int .i64 bwt, .int .i64 bds]), (PA, [.int .i64 aid, .slice (some ⟨al, ao, none⟩) an ac, .int .i64 alv, .string acl, .string anm, .bool ast, .int .i64 awt, .int .i64 ads])] wx → (wx.cell? ⟨PA, 1, none⟩ = some (.slice (some ⟨al, ao, none⟩) an ac) ∧ wx.cell? ⟨PB, 1, none⟩ = some (.slice (some ⟨bl, bo, none⟩) bn bc) ∧ wx.cell? ⟨T, 0, none⟩ = some (.int .i64 x) ∧ wx.cell? ⟨T, 1, none⟩ = some (.int .i64 y) ∧ wx.cell? ⟨bl, bo, none⟩ = some (.int .i64 x) ∧ wx.cell? ⟨bl, bo + 1, none⟩ = some (.int .i64 y) ∧ wx.cell? ⟨bl, bo + j * 2, none⟩ = some (.int .i64 x3) ∧ wx.cell? ⟨bl, bo + j * 2 + 1, none⟩ = some (.int .i64 y3)) ∧ Has wk [(T, [.int .i64 x, .int .i64 y]), (PB, [.int .i64 bid, .slice (some ⟨bl, bo, none⟩) bn bc, .int .i64 blv, .string bcl, .string bnm, .bool bst, .int .i64 bwt, .int .i64 bds]), (PA, [.int .i64 aid, .slice (some ⟨al, ao, none⟩) an ac, .int .i64 alv, .string acl, .string anm, .bool ast, .int .i64 awt, .int .i64 ads])] wx from fun wx h => ⟨⟨h.tail.tail.fact (.head _) (i := 1) rfl, h.tail.fact (.head _) (i := 1) rfl, h.fact (.head _) (i := 0) rfl, h.fact (.head _) (i := 1) rfl, (HQ2.out _ h.low).1, (HQ2.out _ h.low).2, (HQ3.out _ h.low).1, (HQ3.out _ h.low).2⟩, h⟩)
               have X0 := HT.out.drew
               refine wp_region_held_drew (S := (fun wx => (wx.cell? ⟨PA, 1, none⟩ = some (.slice (some ⟨al, ao, none⟩) an ac) ∧ wx.cell? ⟨PB, 1, none⟩ = some (.slice (some ⟨bl, bo, none⟩) bn bc) ∧ wx.cell? ⟨T, 0, none⟩ = some (.int .i64 x) ∧ wx.cell? ⟨T, 1, none⟩ = some (.int .i64 y) ∧ wx.cell? ⟨bl, bo, none⟩ = some (.int .i64 x) ∧ wx.cell? ⟨bl, bo + 1, none⟩ = some (.int .i64 y) ∧ wx.cell? ⟨bl, bo + j * 2, none⟩ = some (.int .i64 x3) ∧ wx.cell? ⟨bl, bo + j * 2 + 1, none⟩ = some (.int .i64 y3)) ∧ Has wk [(T, [.int .i64 x, .int .i64 y]), (PB, [.int .i64 bid, .slice (some ⟨bl, bo, none⟩) bn bc, .int .i64 blv, .string bcl, .string bnm, .bool bst, .int .i64 bwt, .int .i64 bds]), (PA, [.int .i64 aid, .slice (some ⟨al, ao, none⟩) an ac, .int .i64 alv, .string acl, .string anm, .bool ast, .int .i64 awt, .int .i64 ads])] wx)) (by kernel_rfl) (HS2.out _ X0) (fun hHeld => ?_)
               generalize wm.drew = v0 at *
               clear HT q1
               refine tbA [0, 1, 2] ?_
               refine tkA (.bool true) (oi := ⟨some 85, .move (.tmp 13), 4, _, _, none⟩) ?_
               simp only [Act.put, pA, pB, pC]
               refine tkA (.bool true) (oi := ⟨some 86, .move (.tmp 85), 4, _, _, none⟩) ?_
               simp only [Act.put, pA, pB, pC]
               refine tkA (.int .i64 0) (oi := ⟨some 87, .move (.tmp 11), 3, _, _, some (1, true)⟩) ?_
               simp only [Act.put, pA, pB, pC]
               refine teA ?_
               refine tlA #[true, true, true, false, false, false, false, false, false, false, false, false, false, false, false, false, false, false, false, false, false, false, false, false, false, false, false, false, false, false, false, false, false] ?_
               refine tbA [3, 4, 5, 6, 7, 8, 9, 10, 11, 12] ?_
               refine tkA (.bool false) (oi := ⟨some 88, .binOp .gtr 3 (.tmp 87) (.const (.int .i64 0)) 3, 4, _, _, some (1, true)⟩) ?_
               simp only [Act.put, pA, pB, pC]
               refine tkA (.bool false) (oi := ⟨some 89, .move (.tmp 88), 4, _, _, some (1, true)⟩) ?_
               simp only [Act.put, pA, pB, pC]
               refine wpAnyT_skip (oi := ⟨some 90, .move (.tmp 11), 3, _, _, some (4, true)⟩) rfl (fun _ _ _ h => h) (by rfl) (by assumption) ?_
               simp only [Act.put, pA, pB, pC]
               refine wpAnyT_skip (oi := ⟨some 91, .binOp .add 3 (.tmp 90) (.const (.int .i64 1)) 3, 3, _, _, some (4, true)⟩) rfl (fun _ _ _ h => h) (by rfl) (by assumption) ?_
               simp only [Act.put, pA, pB, pC]
               refine wpAnyT_skip (oi := ⟨some 92, .fieldAddr 44 (.tmp 9) 1, 0, _, _, some (4, true)⟩) rfl (fun _ _ _ h => h) (by rfl) (by assumption) ?_
               simp only [Act.put, pA, pB, pC]
               refine wpAnyT_skip (oi := ⟨some 93, .load 42 (.tmp 92), 42, _, _, some (4, true)⟩) rfl (fun _ _ _ h => h) (by rfl) (by assumption) ?_
               simp only [Act.put, pA, pB, pC]
               refine wpAnyT_skip (oi := ⟨some 94, .call { callee := .builtin .len, args := #[.tmp 93], argTypes := #[42] }, 3, _, _, some (4, true)⟩) rfl (fun _ _ _ h => h) (by rfl) (by assumption) ?_
               simp only [Act.put, pA, pB, pC]
               refine wpAnyT_skip (oi := ⟨some 95, .binOp .lss 3 (.tmp 91) (.tmp 94) 3, 4, _, _, some (4, true)⟩) rfl (fun _ _ _ h => h) (by rfl) (by assumption) ?_
               simp only [Act.put, pA, pB, pC]
               refine tkA (.bool false) (oi := ⟨some 96, .pick (.tmp 89) (.tmp 95) (.const (.bool false)), 4, _, _, some (1, true)⟩) ?_
               simp only [Act.put, pA, pB, pC]
               refine tkA (.bool false) (oi := ⟨some 97, .move (.tmp 96), 4, _, _, some (1, true)⟩) ?_
               simp only [Act.put, pA, pB, pC]
               refine teA ?_
               refine tlA #[true, true, true, true, true, true, true, true, true, true, true, true, true, false, false, false, false, false, false, false, false, false, false, false, false, false, false, false, false, false, false, false, false] ?_
               refine tbA [13, 14, 15, 16, 17] ?_
               refine tkA (.agg #[.int .i64 x, .int .i64 y]) (oi := ⟨some 98, .load 37 (.tmp 12), 37, _, _, some (12, false)⟩) ?_
               simp only [Act.put, pA, pB, pC]
               refine tkA (.pointer (some ⟨PB, 1, none⟩)) (oi := ⟨some 99, .fieldAddr 44 (.tmp 10) 1, 0, _, _, some (12, false)⟩) ?_
               simp only [Act.put, pA, pB, pC]
               refine tkA (.slice (some ⟨bl, bo, none⟩) bn bc) (oi := ⟨some 100, .load 42 (.tmp 99), 42, _, _, some (12, false)⟩) ?_
               simp only [Act.put, pA, pB, pC]
               refine tkA (.pointer (some ⟨bl, bo, none⟩)) (oi := ⟨some 101, .indexAddr 42 (.tmp 100) (.const (.int .i64 0)), 0, _, _, some (12, false)⟩) ?_
               simp only [Act.put, pA, pB, pC]
               refine tkA (.agg #[.int .i64 x, .int .i64 y]) (oi := ⟨some 102, .load 37 (.tmp 101), 37, _, _, some (12, false)⟩) ?_
               simp only [Act.put, pA, pB, pC]
               refine teA ?_
               refine tlA #[true, true, true, true, true, true, true, true, true, true, true, true, true, true, true, true, true, true, false, false, false, false, false, false, false, false, false, false, false, false, false, false, false] ?_
               refine tbA [18, 19, 20, 21, 22, 23, 24, 25, 26, 27, 28, 29, 30, 31, 32] ?_
               refine tkA (.bool false) (oi := ⟨some 103, .binOp .neq 37 (.tmp 98) (.tmp 102) 37, 4, _, _, some (12, false)⟩) ?_
               simp only [Act.put, pA, pB, pC]
               refine tkA (.bool false) (oi := ⟨some 104, .move (.tmp 103), 4, _, _, some (12, false)⟩) ?_
               simp only [Act.put, pA, pB, pC]
               refine wpAnyT_skip (oi := ⟨some 105, .load 37 (.tmp 12), 37, _, _, some (19, true)⟩) rfl (fun _ _ _ h => h) (by rfl) (by assumption) ?_
               simp only [Act.put, pA, pB, pC]
               refine wpAnyT_skip (oi := ⟨some 106, .fieldAddr 44 (.tmp 10) 1, 0, _, _, some (19, true)⟩) rfl (fun _ _ _ h => h) (by rfl) (by assumption) ?_
               simp only [Act.put, pA, pB, pC]
               refine wpAnyT_skip (oi := ⟨some 107, .load 42 (.tmp 106), 42, _, _, some (19, true)⟩) rfl (fun _ _ _ h => h) (by rfl) (by assumption) ?_
               simp only [Act.put, pA, pB, pC]
               refine wpAnyT_skip (oi := ⟨some 108, .fieldAddr 44 (.tmp 10) 1, 0, _, _, some (19, true)⟩) rfl (fun _ _ _ h => h) (by rfl) (by assumption) ?_
               simp only [Act.put, pA, pB, pC]
               refine wpAnyT_skip (oi := ⟨some 109, .load 42 (.tmp 108), 42, _, _, some (19, true)⟩) rfl (fun _ _ _ h => h) (by rfl) (by assumption) ?_
               simp only [Act.put, pA, pB, pC]
               refine wpAnyT_skip (oi := ⟨some 110, .call { callee := .builtin .len, args := #[.tmp 109], argTypes := #[42] }, 3, _, _, some (19, true)⟩) rfl (fun _ _ _ h => h) (by rfl) (by assumption) ?_
               simp only [Act.put, pA, pB, pC]
               refine wpAnyT_skip (oi := ⟨some 111, .binOp .sub 3 (.tmp 110) (.const (.int .i64 1)) 3, 3, _, _, some (19, true)⟩) rfl (fun _ _ _ h => h) (by rfl) (by assumption) ?_
               simp only [Act.put, pA, pB, pC]
               refine wpAnyT_skip (oi := ⟨some 112, .indexAddr 42 (.tmp 107) (.tmp 111), 0, _, _, some (19, true)⟩) rfl (fun _ _ _ h => h) (by rfl) (by assumption) ?_
               simp only [Act.put, pA, pB, pC]
               refine wpAnyT_skip (oi := ⟨some 113, .load 37 (.tmp 112), 37, _, _, some (19, true)⟩) rfl (fun _ _ _ h => h) (by rfl) (by assumption) ?_
               simp only [Act.put, pA, pB, pC]
               refine wpAnyT_skip (oi := ⟨some 114, .binOp .neq 37 (.tmp 105) (.tmp 113) 37, 4, _, _, some (19, true)⟩) rfl (fun _ _ _ h => h) (by rfl) (by assumption) ?_
               simp only [Act.put, pA, pB, pC]
               refine tkA (.bool false) (oi := ⟨some 115, .pick (.tmp 104) (.tmp 114) (.const (.bool false)), 4, _, _, some (12, false)⟩) ?_
               simp only [Act.put, pA, pB, pC]
               refine tkA (.bool false) (oi := ⟨some 116, .pick (.tmp 97) (.const (.bool true)) (.tmp 115), 4, _, _, some (1, true)⟩) ?_
               simp only [Act.put, pA, pB, pC]
               refine tkA (.bool false) (oi := ⟨some 117, .pick (.tmp 86) (.tmp 116) (.const (.bool false)), 4, _, _, none⟩) ?_
               simp only [Act.put, pA, pB, pC]
               refine teA ?_
               refine tlA #[true, true, true, true, true, true, true, true, true, true, true, true, true, true, true, true, true, true, true, true, true, true, true, true, true, true, true, true, true, true, true, true, true] ?_
               refine wpAnyH_done (by kernel_rfl) ?_ _
               clear hHeld HS2
               go_wp2_with fail
               go_meet
               exact ⟨rfl, Lib.hid X0⟩
              ·have hl : (x, y) = (x3, y3) := eq2.resolve_left hf
               cases hl
               clear eq2
               have zf : x = x2 → ¬ y = y2 := fun h g => hf (by rw [h, g])
               clear hf
               have HS2 := Lib.hid (show ∀ wx, Has wk [(T, [.int .i64 x, .int .i64 y]), (PB, [.int .i64 bid, .slice (some ⟨bl, bo, none⟩) bn bc, .int .i64 blv, .string bcl, .string bnm, .bool bst, .int .i64 bwt, .int .i64 bds]), (PA, [.int .i64 aid, .slice (some ⟨al, ao, none⟩) an ac, .int .i64 alv, .string acl, .string anm, .bool ast, .int .i64 awt, .int .i64 ads])] wx → (wx.cell? ⟨PA, 1, none⟩ = some (.slice (some ⟨al, ao, none⟩) an ac) ∧ wx.cell? ⟨PB, 1, none⟩ = some (.slice (some ⟨bl, bo, none⟩) bn bc) ∧ wx.cell? ⟨T, 0, none⟩ = some (.int .i64 x) ∧ wx.cell? ⟨T, 1, none⟩ = some (.int .i64 y) ∧ wx.cell? ⟨bl, bo, none⟩ = some (.int .i64 x2) ∧ wx.cell? ⟨bl, bo + 1, none⟩ = some (.int .i64 y2) ∧ wx.cell? ⟨bl, bo + j * 2, none⟩ = some (.int .i64 x) ∧ wx.cell? ⟨bl, bo + j * 2 + 1, none⟩ = some (.int .i64 y)) ∧ Has wk [(T, [.int .i64 x, .int .i64 y]), (PB, [.int .i64 bid, .slice (some ⟨bl, bo, none⟩) bn bc, .int .i64 blv, .string bcl, .string bnm, .bool bst, .int .i64 bwt, .int .i64 bds]), (PA, [.int .i64 aid, .slice (some ⟨al, ao, none⟩) an ac, .int .i64 alv, .string acl, .string anm, .bool ast, .int .i64 awt, .int .i64 ads])] wx from fun wx h => ⟨⟨h.tail.tail.fact (.head _) (i := 1) rfl, h.tail.fact (.head _) (i := 1) rfl, h.fact (.head _) (i := 0) rfl, h.fact (.head _) (i := 1) rfl, (HQ2.out _ h.low).1, (HQ2.out _ h.low).2, (HQ3.out _ h.low).1, (HQ3.out _ h.low).2⟩, h⟩)
               have X0 := HT.out.drew
               refine wp_region_held_drew (S := (fun wx => (wx.cell? ⟨PA, 1, none⟩ = some (.slice (some ⟨al, ao, none⟩) an ac) ∧ wx.cell? ⟨PB, 1, none⟩ = some (.slice (some ⟨bl, bo, none⟩) bn bc) ∧ wx.cell? ⟨T, 0, none⟩ = some (.int .i64 x) ∧ wx.cell? ⟨T, 1, none⟩ = some (.int .i64 y) ∧ wx.cell? ⟨bl, bo, none⟩ = some (.int .i64 x2) ∧ wx.cell? ⟨bl, bo + 1, none⟩ = some (.int .i64 y2) ∧ wx.cell? ⟨bl, bo + j * 2, none⟩ = some (.int .i64 x) ∧ wx.cell? ⟨bl, bo + j * 2 + 1, none⟩ = some (.int .i64 y)) ∧ Has wk [(T, [.int .i64 x, .int .i64 y]), (PB, [.int .i64 bid, .slice (some ⟨bl, bo, none⟩) bn bc, .int .i64 blv, .string bcl, .string bnm, .bool bst, .int .i64 bwt, .int .i64 bds]), (PA, [.int .i64 aid, .slice (some ⟨al, ao, none⟩) an ac, .int .i64 alv, .string acl, .string anm, .bool ast, .int .i64 awt, .int .i64 ads])] wx)) (by kernel_rfl) (HS2.out _ X0) (fun hHeld => ?_)
               generalize wm.drew = v0 at *
               clear HT q1
               refine tbA [0, 1, 2] ?_
               refine tkA (.bool true) (oi := ⟨some 85, .move (.tmp 13), 4, _, _, none⟩) ?_
               simp only [Act.put, pA, pB, pC]
               refine tkA (.bool true) (oi := ⟨some 86, .move (.tmp 85), 4, _, _, none⟩) ?_
               simp only [Act.put, pA, pB, pC]
               refine tkA (.int .i64 0) (oi := ⟨some 87, .move (.tmp 11), 3, _, _, some (1, true)⟩) ?_
               simp only [Act.put, pA, pB, pC]
               refine teA ?_
               refine tlA #[true, true, true, false, false, false, false, false, false, false, false, false, false, false, false, false, false, false, false, false, false, false, false, false, false, false, false, false, false, false, false, false, false] ?_
               refine tbA [3, 4, 5, 6, 7, 8, 9, 10, 11, 12] ?_
               refine tkA (.bool false) (oi := ⟨some 88, .binOp .gtr 3 (.tmp 87) (.const (.int .i64 0)) 3, 4, _, _, some (1, true)⟩) ?_
               simp only [Act.put, pA, pB, pC]
               refine tkA (.bool false) (oi := ⟨some 89, .move (.tmp 88), 4, _, _, some (1, true)⟩) ?_
               simp only [Act.put, pA, pB, pC]
               refine wpAnyT_skip (oi := ⟨some 90, .move (.tmp 11), 3, _, _, some (4, true)⟩) rfl (fun _ _ _ h => h) (by rfl) (by assumption) ?_
               simp only [Act.put, pA, pB, pC]
               refine wpAnyT_skip (oi := ⟨some 91, .binOp .add 3 (.tmp 90) (.const (.int .i64 1)) 3, 3, _, _, some (4, true)⟩) rfl (fun _ _ _ h => h) (by rfl) (by assumption) ?_
               simp only [Act.put, pA, pB, pC]
               refine wpAnyT_skip (oi := ⟨some 92, .fieldAddr 44 (.tmp 9) 1, 0, _, _, some (4, true)⟩) rfl (fun _ _ _ h => h) (by rfl) (by assumption) ?_
               simp only [Act.put, pA, pB, pC]
               refine wpAnyT_skip (oi := ⟨some 93, .load 42 (.tmp 92), 42, _, _, some (4, true)⟩) rfl (fun _ _ _ h => h) (by rfl) (by assumption) ?_
               simp only [Act.put, pA, pB, pC]
               refine wpAnyT_skip (oi := ⟨some 94, .call { callee := .builtin .len, args := #[.tmp 93], argTypes := #[42] }, 3, _, _, some (4, true)⟩) rfl (fun _ _ _ h => h) (by rfl) (by assumption) ?_
               simp only [Act.put, pA, pB, pC]
               refine wpAnyT_skip (oi := ⟨some 95, .binOp .lss 3 (.tmp 91) (.tmp 94) 3, 4, _, _, some (4, true)⟩) rfl (fun _ _ _ h => h) (by rfl) (by assumption) ?_
               simp only [Act.put, pA, pB, pC]
               refine tkA (.bool false) (oi := ⟨some 96, .pick (.tmp 89) (.tmp 95) (.const (.bool false)), 4, _, _, some (1, true)⟩) ?_
               simp only [Act.put, pA, pB, pC]
               refine tkA (.bool false) (oi := ⟨some 97, .move (.tmp 96), 4, _, _, some (1, true)⟩) ?_
               simp only [Act.put, pA, pB, pC]
               refine teA ?_
               refine tlA #[true, true, true, true, true, true, true, true, true, true, true, true, true, false, false, false, false, false, false, false, false, false, false, false, false, false, false, false, false, false, false, false, false] ?_
               refine tbA [13, 14, 15, 16, 17] ?_
               refine tkA (.agg #[.int .i64 x, .int .i64 y]) (oi := ⟨some 98, .load 37 (.tmp 12), 37, _, _, some (12, false)⟩) ?_
               simp only [Act.put, pA, pB, pC]
               refine tkA (.pointer (some ⟨PB, 1, none⟩)) (oi := ⟨some 99, .fieldAddr 44 (.tmp 10) 1, 0, _, _, some (12, false)⟩) ?_
               simp only [Act.put, pA, pB, pC]
               refine tkA (.slice (some ⟨bl, bo, none⟩) bn bc) (oi := ⟨some 100, .load 42 (.tmp 99), 42, _, _, some (12, false)⟩) ?_
               simp only [Act.put, pA, pB, pC]
               refine tkA (.pointer (some ⟨bl, bo, none⟩)) (oi := ⟨some 101, .indexAddr 42 (.tmp 100) (.const (.int .i64 0)), 0, _, _, some (12, false)⟩) ?_
               simp only [Act.put, pA, pB, pC]
               refine tkA (.agg #[.int .i64 x2, .int .i64 y2]) (oi := ⟨some 102, .load 37 (.tmp 101), 37, _, _, some (12, false)⟩) ?_
               simp only [Act.put, pA, pB, pC]
               refine teA ?_
               refine tlA #[true, true, true, true, true, true, true, true, true, true, true, true, true, true, true, true, true, true, false, false, false, false, false, false, false, false, false, false, false, false, false, false, false] ?_
               refine tbA [18, 19, 20, 21, 22, 23] ?_
               refine wpAnyT_take (oi := ⟨some 103, .binOp .neq 37 (.tmp 98) (.tmp 102) 37, 4, _, _, some (12, false)⟩) (v := .bool true) rfl (fun _ _ _ h => h) (by rfl) (by assumption) (fun wS hSw => ?_) ?_
               ·(try dsimp only at hSw); go_simp; try exact zf
               simp only [Act.put, pA, pB, pC]
               refine tkA (.bool true) (oi := ⟨some 104, .move (.tmp 103), 4, _, _, some (12, false)⟩) ?_
               simp only [Act.put, pA, pB, pC]
               refine tkA (.agg #[.int .i64 x, .int .i64 y]) (oi := ⟨some 105, .load 37 (.tmp 12), 37, _, _, some (19, true)⟩) ?_
               simp only [Act.put, pA, pB, pC]
               refine tkA (.pointer (some ⟨PB, 1, none⟩)) (oi := ⟨some 106, .fieldAddr 44 (.tmp 10) 1, 0, _, _, some (19, true)⟩) ?_
               simp only [Act.put, pA, pB, pC]
               refine tkA (.slice (some ⟨bl, bo, none⟩) bn bc) (oi := ⟨some 107, .load 42 (.tmp 106), 42, _, _, some (19, true)⟩) ?_
               simp only [Act.put, pA, pB, pC]
               refine tkA (.pointer (some ⟨PB, 1, none⟩)) (oi := ⟨some 108, .fieldAddr 44 (.tmp 10) 1, 0, _, _, some (19, true)⟩) ?_
               simp only [Act.put, pA, pB, pC]
               refine teA ?_
               refine tlA #[true, true, true, true, true, true, true, true, true, true, true, true, true, true, true, true, true, true, true, true, true, true, true, true, false, false, false, false, false, false, false, false, false] ?_
               refine tbA [24, 25, 26, 27, 28] ?_
               refine tkA (.slice (some ⟨bl, bo, none⟩) bn bc) (oi := ⟨some 109, .load 42 (.tmp 108), 42, _, _, some (19, true)⟩) ?_
               simp only [Act.put, pA, pB, pC]
               refine tkA (.int .i64 bn) (oi := ⟨some 110, .call { callee := .builtin .len, args := #[.tmp 109], argTypes := #[42] }, 3, _, _, some (19, true)⟩) ?_
               simp only [Act.put, pA, pB, pC]
               refine tkA (.int .i64 j) (oi := ⟨some 111, .binOp .sub 3 (.tmp 110) (.const (.int .i64 1)) 3, 3, _, _, some (19, true)⟩) ?_
               simp only [Act.put, pA, pB, pC]
               refine tkA (.pointer (some ⟨bl, bo + j * 2, none⟩)) (oi := ⟨some 112, .indexAddr 42 (.tmp 107) (.tmp 111), 0, _, _, some (19, true)⟩) ?_
               simp only [Act.put, pA, pB, pC]
               refine tkA (.agg #[.int .i64 x, .int .i64 y]) (oi := ⟨some 113, .load 37 (.tmp 112), 37, _, _, some (19, true)⟩) ?_
               simp only [Act.put, pA, pB, pC]
               refine teA ?_
               refine tlA #[true, true, true, true, true, true, true, true, true, true, true, true, true, true, true, true, true, true, true, true, true, true, true, true, true, true, true, true, true, false, false, false, false] ?_
               refine tbA [29, 30, 31, 32] ?_
               refine tkA (.bool false) (oi := ⟨some 114, .binOp .neq 37 (.tmp 105) (.tmp 113) 37, 4, _, _, some (19, true)⟩) ?_
               simp only [Act.put, pA, pB, pC]
               refine tkA (.bool false) (oi := ⟨some 115, .pick (.tmp 104) (.tmp 114) (.const (.bool false)), 4, _, _, some (12, false)⟩) ?_
               simp only [Act.put, pA, pB, pC]
               refine tkA (.bool false) (oi := ⟨some 116, .pick (.tmp 97) (.const (.bool true)) (.tmp 115), 4, _, _, some (1, true)⟩) ?_
               simp only [Act.put, pA, pB, pC]
               refine tkA (.bool false) (oi := ⟨some 117, .pick (.tmp 86) (.tmp 116) (.const (.bool false)), 4, _, _, none⟩) ?_
               simp only [Act.put, pA, pB, pC]
               refine teA ?_
               refine tlA #[true, true, true, true, true, true, true, true, true, true, true, true, true, true, true, true, true, true, true, true, true, true, true, true, true, true, true, true, true, true, true, true, true] ?_
               refine wpAnyH_done (by kernel_rfl) ?_ _
               clear hHeld HS2
               go_wp2_with fail
               go_meet
               exact ⟨rfl, Lib.hid X0⟩
             ·have hqe : q + 1 = an := eq1.resolve_left hq0
              have k1 : (q : Int) > 0 := by omega
              have k3 : 0 < q := by omega
              have k2 : ¬ (q : Int) + 1 < an := by omega
              clear eq1
              by_cases hf : (x, y) = (x2, y2)
              ·cases hf
               clear eq2 hq0
               have HS2 := Lib.hid (show ∀ wx, Has wk [(T, [.int .i64 x, .int .i64 y]), (PB, [.int .i64 bid, .slice (some ⟨bl, bo, none⟩) bn bc, .int .i64 blv, .string bcl, .string bnm, .bool bst, .int .i64 bwt, .int .i64 bds]), (PA, [.int .i64 aid, .slice (some ⟨al, ao, none⟩) an ac, .int .i64 alv, .string acl, .string anm, .bool ast, .int .i64 awt, .int .i64 ads])] wx → (wx.cell? ⟨PA, 1, none⟩ = some (.slice (some ⟨al, ao, none⟩) an ac) ∧ wx.cell? ⟨PB, 1, none⟩ = some (.slice (some ⟨bl, bo, none⟩) bn bc) ∧ wx.cell? ⟨T, 0, none⟩ = some (.int .i64 x) ∧ wx.cell? ⟨T, 1, none⟩ = some (.int .i64 y) ∧ wx.cell? ⟨bl, bo, none⟩ = some (.int .i64 x) ∧ wx.cell? ⟨bl, bo + 1, none⟩ = some (.int .i64 y) ∧ wx.cell? ⟨bl, bo + j * 2, none⟩ = some (.int .i64 x3) ∧ wx.cell? ⟨bl, bo + j * 2 + 1, none⟩ = some (.int .i64 y3)) ∧ Has wk [(T, [.int .i64 x, .int .i64 y]), (PB, [.int .i64 bid, .slice (some ⟨bl, bo, none⟩) bn bc, .int .i64 blv, .string bcl, .string bnm, .bool bst, .int .i64 bwt, .int .i64 bds]), (PA, [.int .i64 aid, .slice (some ⟨al, ao, none⟩) an ac, .int .i64 alv, .string acl, .string anm, .bool ast, .int .i64 awt, .int .i64 ads])] wx from fun wx h => ⟨⟨h.tail.tail.fact (.head _) (i := 1) rfl, h.tail.fact (.head _) (i := 1) rfl, h.fact (.head _) (i := 0) rfl, h.fact (.head _) (i := 1) rfl, (HQ2.out _ h.low).1, (HQ2.out _ h.low).2, (HQ3.out _ h.low).1, (HQ3.out _ h.low).2⟩, h⟩)
               have X0 := HT.out.drew
               refine wp_region_held_drew (S := (fun wx => (wx.cell? ⟨PA, 1, none⟩ = some (.slice (some ⟨al, ao, none⟩) an ac) ∧ wx.cell? ⟨PB, 1, none⟩ = some (.slice (some ⟨bl, bo, none⟩) bn bc) ∧ wx.cell? ⟨T, 0, none⟩ = some (.int .i64 x) ∧ wx.cell? ⟨T, 1, none⟩ = some (.int .i64 y) ∧ wx.cell? ⟨bl, bo, none⟩ = some (.int .i64 x) ∧ wx.cell? ⟨bl, bo + 1, none⟩ = some (.int .i64 y) ∧ wx.cell? ⟨bl, bo + j * 2, none⟩ = some (.int .i64 x3) ∧ wx.cell? ⟨bl, bo + j * 2 + 1, none⟩ = some (.int .i64 y3)) ∧ Has wk [(T, [.int .i64 x, .int .i64 y]), (PB, [.int .i64 bid, .slice (some ⟨bl, bo, none⟩) bn bc, .int .i64 blv, .string bcl, .string bnm, .bool bst, .int .i64 bwt, .int .i64 bds]), (PA, [.int .i64 aid, .slice (some ⟨al, ao, none⟩) an ac, .int .i64 alv, .string acl, .string anm, .bool ast, .int .i64 awt, .int .i64 ads])] wx)) (by kernel_rfl) (HS2.out _ X0) (fun hHeld => ?_)
               generalize wm.drew = v0 at *
               clear HT q1
               refine tbA [0, 1, 2] ?_
               refine tkA (.bool true) (oi := ⟨some 85, .move (.tmp 13), 4, _, _, none⟩) ?_
               simp only [Act.put, pA, pB, pC]
               refine tkA (.bool true) (oi := ⟨some 86, .move (.tmp 85), 4, _, _, none⟩) ?_
               simp only [Act.put, pA, pB, pC]
               refine tkA (.int .i64 q) (oi := ⟨some 87, .move (.tmp 11), 3, _, _, some (1, true)⟩) ?_
               simp only [Act.put, pA, pB, pC]
               refine teA ?_
               refine tlA #[true, true, true, false, false, false, false, false, false, false, false, false, false, false, false, false, false, false, false, false, false, false, false, false, false, false, false, false, false, false, false, false, false] ?_
               refine tbA [3, 4, 5, 6, 7] ?_
               refine tkA (.bool true) (oi := ⟨some 88, .binOp .gtr 3 (.tmp 87) (.const (.int .i64 0)) 3, 4, _, _, some (1, true)⟩) ?_
               simp only [Act.put, pA, pB, pC]
               refine tkA (.bool true) (oi := ⟨some 89, .move (.tmp 88), 4, _, _, some (1, true)⟩) ?_
               simp only [Act.put, pA, pB, pC]
               refine tkA (.int .i64 q) (oi := ⟨some 90, .move (.tmp 11), 3, _, _, some (4, true)⟩) ?_
               simp only [Act.put, pA, pB, pC]
               refine tkA (.int .i64 ((q : Int) + 1)) (oi := ⟨some 91, .binOp .add 3 (.tmp 90) (.const (.int .i64 1)) 3, 3, _, _, some (4, true)⟩) ?_
               simp only [Act.put, pA, pB, pC]
               refine tkA (.pointer (some ⟨PA, 1, none⟩)) (oi := ⟨some 92, .fieldAddr 44 (.tmp 9) 1, 0, _, _, some (4, true)⟩) ?_
               simp only [Act.put, pA, pB, pC]
               refine teA ?_
               refine tlA #[true, true, true, true, true, true, true, true, false, false, false, false, false, false, false, false, false, false, false, false, false, false, false, false, false, false, false, false, false, false, false, false, false] ?_
               refine tbA [8, 9, 10, 11, 12] ?_
               refine tkA (.slice (some ⟨al, ao, none⟩) an ac) (oi := ⟨some 93, .load 42 (.tmp 92), 42, _, _, some (4, true)⟩) ?_
               simp only [Act.put, pA, pB, pC]
               refine tkA (.int .i64 an) (oi := ⟨some 94, .call { callee := .builtin .len, args := #[.tmp 93], argTypes := #[42] }, 3, _, _, some (4, true)⟩) ?_
               simp only [Act.put, pA, pB, pC]
               refine tkA (.bool false) (oi := ⟨some 95, .binOp .lss 3 (.tmp 91) (.tmp 94) 3, 4, _, _, some (4, true)⟩) ?_
               simp only [Act.put, pA, pB, pC]
               refine tkA (.bool false) (oi := ⟨some 96, .pick (.tmp 89) (.tmp 95) (.const (.bool false)), 4, _, _, some (1, true)⟩) ?_
               simp only [Act.put, pA, pB, pC]
               refine tkA (.bool false) (oi := ⟨some 97, .move (.tmp 96), 4, _, _, some (1, true)⟩) ?_
               simp only [Act.put, pA, pB, pC]
               refine teA ?_
               refine tlA #[true, true, true, true, true, true, true, true, true, true, true, true, true, false, false, false, false, false, false, false, false, false, false, false, false, false, false, false, false, false, false, false, false] ?_
               refine tbA [13, 14, 15, 16, 17] ?_
               refine tkA (.agg #[.int .i64 x, .int .i64 y]) (oi := ⟨some 98, .load 37 (.tmp 12), 37, _, _, some (12, false)⟩) ?_
               simp only [Act.put, pA, pB, pC]
               refine tkA (.pointer (some ⟨PB, 1, none⟩)) (oi := ⟨some 99, .fieldAddr 44 (.tmp 10) 1, 0, _, _, some (12, false)⟩) ?_
               simp only [Act.put, pA, pB, pC]
               refine tkA (.slice (some ⟨bl, bo, none⟩) bn bc) (oi := ⟨some 100, .load 42 (.tmp 99), 42, _, _, some (12, false)⟩) ?_
               simp only [Act.put, pA, pB, pC]
               refine tkA (.pointer (some ⟨bl, bo, none⟩)) (oi := ⟨some 101, .indexAddr 42 (.tmp 100) (.const (.int .i64 0)), 0, _, _, some (12, false)⟩) ?_
               simp only [Act.put, pA, pB, pC]
               refine tkA (.agg #[.int .i64 x, .int .i64 y]) (oi := ⟨some 102, .load 37 (.tmp 101), 37, _, _, some (12, false)⟩) ?_
               simp only [Act.put, pA, pB, pC]
               refine teA ?_
               refine tlA #[true, true, true, true, true, true, true, true, true, true, true, true, true, true, true, true, true, true, false, false, false, false, false, false, false, false, false, false, false, false, false, false, false] ?_
               refine tbA [18, 19, 20, 21, 22, 23, 24, 25, 26, 27, 28, 29, 30, 31, 32] ?_
               refine tkA (.bool false) (oi := ⟨some 103, .binOp .neq 37 (.tmp 98) (.tmp 102) 37, 4, _, _, some (12, false)⟩) ?_
               simp only [Act.put, pA, pB, pC]
               refine tkA (.bool false) (oi := ⟨some 104, .move (.tmp 103), 4, _, _, some (12, false)⟩) ?_
               simp only [Act.put, pA, pB, pC]
               refine wpAnyT_skip (oi := ⟨some 105, .load 37 (.tmp 12), 37, _, _, some (19, true)⟩) rfl (fun _ _ _ h => h) (by rfl) (by assumption) ?_
               simp only [Act.put, pA, pB, pC]
               refine wpAnyT_skip (oi := ⟨some 106, .fieldAddr 44 (.tmp 10) 1, 0, _, _, some (19, true)⟩) rfl (fun _ _ _ h => h) (by rfl) (by assumption) ?_
               simp only [Act.put, pA, pB, pC]
               refine wpAnyT_skip (oi := ⟨some 107, .load 42 (.tmp 106), 42, _, _, some (19, true)⟩) rfl (fun _ _ _ h => h) (by rfl) (by assumption) ?_
               simp only [Act.put, pA, pB, pC]
               refine wpAnyT_skip (oi := ⟨some 108, .fieldAddr 44 (.tmp 10) 1, 0, _, _, some (19, true)⟩) rfl (fun _ _ _ h => h) (by rfl) (by assumption) ?_
               simp only [Act.put, pA, pB, pC]
               refine wpAnyT_skip (oi := ⟨some 109, .load 42 (.tmp 108), 42, _, _, some (19, true)⟩) rfl (fun _ _ _ h => h) (by rfl) (by assumption) ?_
               simp only [Act.put, pA, pB, pC]
               refine wpAnyT_skip (oi := ⟨some 110, .call { callee := .builtin .len, args := #[.tmp 109], argTypes := #[42] }, 3, _, _, some (19, true)⟩) rfl (fun _ _ _ h => h) (by rfl) (by assumption) ?_
               simp only [Act.put, pA, pB, pC]
               refine wpAnyT_skip (oi := ⟨some 111, .binOp .sub 3 (.tmp 110) (.const (.int .i64 1)) 3, 3, _, _, some (19, true)⟩) rfl (fun _ _ _ h => h) (by rfl) (by assumption) ?_
               simp only [Act.put, pA, pB, pC]
               refine wpAnyT_skip (oi := ⟨some 112, .indexAddr 42 (.tmp 107) (.tmp 111), 0, _, _, some (19, true)⟩) rfl (fun _ _ _ h => h) (by rfl) (by assumption) ?_
               simp only [Act.put, pA, pB, pC]
               refine wpAnyT_skip (oi := ⟨some 113, .load 37 (.tmp 112), 37, _, _, some (19, true)⟩) rfl (fun _ _ _ h => h) (by rfl) (by assumption) ?_
               simp only [Act.put, pA, pB, pC]
               refine wpAnyT_skip (oi := ⟨some 114, .binOp .neq 37 (.tmp 105) (.tmp 113) 37, 4, _, _, some (19, true)⟩) rfl (fun _ _ _ h => h) (by rfl) (by assumption) ?_
               simp only [Act.put, pA, pB, pC]
               refine tkA (.bool false) (oi := ⟨some 115, .pick (.tmp 104) (.tmp 114) (.const (.bool false)), 4, _, _, some (12, false)⟩) ?_
               simp only [Act.put, pA, pB, pC]
               refine tkA (.bool false) (oi := ⟨some 116, .pick (.tmp 97) (.const (.bool true)) (.tmp 115), 4, _, _, some (1, true)⟩) ?_
               simp only [Act.put, pA, pB, pC]
               refine tkA (.bool false) (oi := ⟨some 117, .pick (.tmp 86) (.tmp 116) (.const (.bool false)), 4, _, _, none⟩) ?_
               simp only [Act.put, pA, pB, pC]
               refine teA ?_
               refine tlA #[true, true, true, true, true, true, true, true, true, true, true, true, true, true, true, true, true, true, true, true, true, true, true, true, true, true, true, true, true, true, true, true, true] ?_
               refine wpAnyH_done (by kernel_rfl) ?_ _
               clear hHeld HS2
               go_wp2_with fail
               go_meet
               exact ⟨rfl, Lib.hid X0⟩
              ·have hl : (x, y) = (x3, y3) := eq2.resolve_left hf
               cases hl
               clear eq2 hq0
               have zf : x = x2 → ¬ y = y2 := fun h g => hf (by rw [h, g])
               clear hf
               have HS2 := Lib.hid (show ∀ wx, Has wk [(T, [.int .i64 x, .int .i64 y]), (PB, [.int .i64 bid, .slice (some ⟨bl, bo, none⟩) bn bc, .int .i64 blv, .string bcl, .string bnm, .bool bst, .int .i64 bwt, .int .i64 bds]), (PA, [.int .i64 aid, .slice (some ⟨al, ao, none⟩) an ac, .int .i64 alv, .string acl, .string anm, .bool ast, .int .i64 awt, .int .i64 ads])] wx → (wx.cell? ⟨PA, 1, none⟩ = some (.slice (some ⟨al, ao, none⟩) an ac) ∧ wx.cell? ⟨PB, 1, none⟩ = some (.slice (some ⟨bl, bo, none⟩) bn bc) ∧ wx.cell? ⟨T, 0, none⟩ = some (.int .i64 x) ∧ wx.cell? ⟨T, 1, none⟩ = some (.int .i64 y) ∧ wx.cell? ⟨bl, bo, none⟩ = some (.int .i64 x2) ∧ wx.cell? ⟨bl, bo + 1, none⟩ = some (.int .i64 y2) ∧ wx.cell? ⟨bl, bo + j * 2, none⟩ = some (.int .i64 x) ∧ wx.cell? ⟨bl, bo + j * 2 + 1, none⟩ = some (.int .i64 y)) ∧ Has wk [(T, [.int .i64 x, .int .i64 y]), (PB, [.int .i64 bid, .slice (some ⟨bl, bo, none⟩) bn bc, .int .i64 blv, .string bcl, .string bnm, .bool bst, .int .i64 bwt, .int .i64 bds]), (PA, [.int .i64 aid, .slice (some ⟨al, ao, none⟩) an ac, .int .i64 alv, .string acl, .string anm, .bool ast, .int .i64 awt, .int .i64 ads])] wx from fun wx h => ⟨⟨h.tail.tail.fact (.head _) (i := 1) rfl, h.tail.fact (.head _) (i := 1) rfl, h.fact (.head _) (i := 0) rfl, h.fact (.head _) (i := 1) rfl, (HQ2.out _ h.low).1, (HQ2.out _ h.low).2, (HQ3.out _ h.low).1, (HQ3.out _ h.low).2⟩, h⟩)
               have X0 := HT.out.drew
               refine wp_region_held_drew (S := (fun wx => (wx.cell? ⟨PA, 1, none⟩ = some (.slice (some ⟨al, ao, none⟩) an ac) ∧ wx.cell? ⟨PB, 1, none⟩ = some (.slice (some ⟨bl, bo, none⟩) bn bc) ∧ wx.cell? ⟨T, 0, none⟩ = some (.int .i64 x) ∧ wx.cell? ⟨T, 1, none⟩ = some (.int .i64 y) ∧ wx.cell? ⟨bl, bo, none⟩ = some (.int .i64 x2) ∧ wx.cell? ⟨bl, bo + 1, none⟩ = some (.int .i64 y2) ∧ wx.cell? ⟨bl, bo + j * 2, none⟩ = some (.int .i64 x) ∧ wx.cell? ⟨bl, bo + j * 2 + 1, none⟩ = some (.int .i64 y)) ∧ Has wk [(T, [.int .i64 x, .int .i64 y]), (PB, [.int .i64 bid, .slice (some ⟨bl, bo, none⟩) bn bc, .int .i64 blv, .string bcl, .string bnm, .bool bst, .int .i64 bwt, .int .i64 bds]), (PA, [.int .i64 aid, .slice (some ⟨al, ao, none⟩) an ac, .int .i64 alv, .string acl, .string anm, .bool ast, .int .i64 awt, .int .i64 ads])] wx)) (by kernel_rfl) (HS2.out _ X0) (fun hHeld => ?_)
               generalize wm.drew = v0 at *
               clear HT q1
               refine tbA [0, 1, 2] ?_
               refine tkA (.bool true) (oi := ⟨some 85, .move (.tmp 13), 4, _, _, none⟩) ?_
               simp only [Act.put, pA, pB, pC]
               refine tkA (.bool true) (oi := ⟨some 86, .move (.tmp 85), 4, _, _, none⟩) ?_
               simp only [Act.put, pA, pB, pC]
               refine tkA (.int .i64 q) (oi := ⟨some 87, .move (.tmp 11), 3, _, _, some (1, true)⟩) ?_
               simp only [Act.put, pA, pB, pC]
               refine teA ?_
               refine tlA #[true, true, true, false, false, false, false, false, false, false, false, false, false, false, false, false, false, false, false, false, false, false, false, false, false, false, false, false, false, false, false, false, false] ?_
               refine tbA [3, 4, 5, 6, 7] ?_
               refine tkA (.bool true) (oi := ⟨some 88, .binOp .gtr 3 (.tmp 87) (.const (.int .i64 0)) 3, 4, _, _, some (1, true)⟩) ?_
               simp only [Act.put, pA, pB, pC]
               refine tkA (.bool true) (oi := ⟨some 89, .move (.tmp 88), 4, _, _, some (1, true)⟩) ?_
               simp only [Act.put, pA, pB, pC]
               refine tkA (.int .i64 q) (oi := ⟨some 90, .move (.tmp 11), 3, _, _, some (4, true)⟩) ?_
               simp only [Act.put, pA, pB, pC]
               refine tkA (.int .i64 ((q : Int) + 1)) (oi := ⟨some 91, .binOp .add 3 (.tmp 90) (.const (.int .i64 1)) 3, 3, _, _, some (4, true)⟩) ?_
               simp only [Act.put, pA, pB, pC]
               refine tkA (.pointer (some ⟨PA, 1, none⟩)) (oi := ⟨some 92, .fieldAddr 44 (.tmp 9) 1, 0, _, _, some (4, true)⟩) ?_
               simp only [Act.put, pA, pB, pC]
               refine teA ?_
               refine tlA #[true, true, true, true, true, true, true, true, false, false, false, false, false, false, false, false, false, false, false, false, false, false, false, false, false, false, false, false, false, false, false, false, false] ?_
               refine tbA [8, 9, 10, 11, 12] ?_
               refine tkA (.slice (some ⟨al, ao, none⟩) an ac) (oi := ⟨some 93, .load 42 (.tmp 92), 42, _, _, some (4, true)⟩) ?_
               simp only [Act.put, pA, pB, pC]
               refine tkA (.int .i64 an) (oi := ⟨some 94, .call { callee := .builtin .len, args := #[.tmp 93], argTypes := #[42] }, 3, _, _, some (4, true)⟩) ?_
               simp only [Act.put, pA, pB, pC]
               refine tkA (.bool false) (oi := ⟨some 95, .binOp .lss 3 (.tmp 91) (.tmp 94) 3, 4, _, _, some (4, true)⟩) ?_
               simp only [Act.put, pA, pB, pC]
               refine tkA (.bool false) (oi := ⟨some 96, .pick (.tmp 89) (.tmp 95) (.const (.bool false)), 4, _, _, some (1, true)⟩) ?_
               simp only [Act.put, pA, pB, pC]
               refine tkA (.bool false) (oi := ⟨some 97, .move (.tmp 96), 4, _, _, some (1, true)⟩) ?_
               simp only [Act.put, pA, pB, pC]
               refine teA ?_
               refine tlA #[true, true, true, true, true, true, true, true, true, true, true, true, true, false, false, false, false, false, false, false, false, false, false, false, false, false, false, false, false, false, false, false, false] ?_
               refine tbA [13, 14, 15, 16, 17] ?_
               refine tkA (.agg #[.int .i64 x, .int .i64 y]) (oi := ⟨some 98, .load 37 (.tmp 12), 37, _, _, some (12, false)⟩) ?_
               simp only [Act.put, pA, pB, pC]
               refine tkA (.pointer (some ⟨PB, 1, none⟩)) (oi := ⟨some 99, .fieldAddr 44 (.tmp 10) 1, 0, _, _, some (12, false)⟩) ?_
               simp only [Act.put, pA, pB, pC]
               refine tkA (.slice (some ⟨bl, bo, none⟩) bn bc) (oi := ⟨some 100, .load 42 (.tmp 99), 42, _, _, some (12, false)⟩) ?_
               simp only [Act.put, pA, pB, pC]
               refine tkA (.pointer (some ⟨bl, bo, none⟩)) (oi := ⟨some 101, .indexAddr 42 (.tmp 100) (.const (.int .i64 0)), 0, _, _, some (12, false)⟩) ?_
               simp only [Act.put, pA, pB, pC]
               refine tkA (.agg #[.int .i64 x2, .int .i64 y2]) (oi := ⟨some 102, .load 37 (.tmp 101), 37, _, _, some (12, false)⟩) ?_
               simp only [Act.put, pA, pB, pC]
               refine teA ?_
               refine tlA #[true, true, true, true, true, true, true, true, true, true, true, true, true, true, true, true, true, true, false, false, false, false, false, false, false, false, false, false, false, false, false, false, false] ?_
               refine tbA [18, 19, 20, 21, 22, 23] ?_
               refine wpAnyT_take (oi := ⟨some 103, .binOp .neq 37 (.tmp 98) (.tmp 102) 37, 4, _, _, some (12, false)⟩) (v := .bool true) rfl (fun _ _ _ h => h) (by rfl) (by assumption) (fun wS hSw => ?_) ?_
               ·(try dsimp only at hSw); go_simp; try exact zf
               simp only [Act.put, pA, pB, pC]
               refine tkA (.bool true) (oi := ⟨some 104, .move (.tmp 103), 4, _, _, some (12, false)⟩) ?_
               simp only [Act.put, pA, pB, pC]
               refine tkA (.agg #[.int .i64 x, .int .i64 y]) (oi := ⟨some 105, .load 37 (.tmp 12), 37, _, _, some (19, true)⟩) ?_
               simp only [Act.put, pA, pB, pC]
               refine tkA (.pointer (some ⟨PB, 1, none⟩)) (oi := ⟨some 106, .fieldAddr 44 (.tmp 10) 1, 0, _, _, some (19, true)⟩) ?_
               simp only [Act.put, pA, pB, pC]
               refine tkA (.slice (some ⟨bl, bo, none⟩) bn bc) (oi := ⟨some 107, .load 42 (.tmp 106), 42, _, _, some (19, true)⟩) ?_
               simp only [Act.put, pA, pB, pC]
               refine tkA (.pointer (some ⟨PB, 1, none⟩)) (oi := ⟨some 108, .fieldAddr 44 (.tmp 10) 1, 0, _, _, some (19, true)⟩) ?_
               simp only [Act.put, pA, pB, pC]
               refine teA ?_
               refine tlA #[true, true, true, true, true, true, true, true, true, true, true, true, true, true, true, true, true, true, true, true, true, true, true, true, false, false, false, false, false, false, false, false, false] ?_
               refine tbA [24, 25, 26, 27, 28] ?_
               refine tkA (.slice (some ⟨bl, bo, none⟩) bn bc) (oi := ⟨some 109, .load 42 (.tmp 108), 42, _, _, some (19, true)⟩) ?_
               simp only [Act.put, pA, pB, pC]
               refine tkA (.int .i64 bn) (oi := ⟨some 110, .call { callee := .builtin .len, args := #[.tmp 109], argTypes := #[42] }, 3, _, _, some (19, true)⟩) ?_
               simp only [Act.put, pA, pB, pC]
               refine tkA (.int .i64 j) (oi := ⟨some 111, .binOp .sub 3 (.tmp 110) (.const (.int .i64 1)) 3, 3, _, _, some (19, true)⟩) ?_
               simp only [Act.put, pA, pB, pC]
               refine tkA (.pointer (some ⟨bl, bo + j * 2, none⟩)) (oi := ⟨some 112, .indexAddr 42 (.tmp 107) (.tmp 111), 0, _, _, some (19, true)⟩) ?_
               simp only [Act.put, pA, pB, pC]
               refine tkA (.agg #[.int .i64 x, .int .i64 y]) (oi := ⟨some 113, .load 37 (.tmp 112), 37, _, _, some (19, true)⟩) ?_
               simp only [Act.put, pA, pB, pC]
               refine teA ?_
               refine tlA #[true, true, true, true, true, true, true, true, true, true, true, true, true, true, true, true, true, true, true, true, true, true, true, true, true, true, true, true, true, false, false, false, false] ?_
               refine tbA [29, 30, 31, 32] ?_
               refine tkA (.bool false) (oi := ⟨some 114, .binOp .neq 37 (.tmp 105) (.tmp 113) 37, 4, _, _, some (19, true)⟩) ?_
               simp only [Act.put, pA, pB, pC]
               refine tkA (.bool false) (oi := ⟨some 115, .pick (.tmp 104) (.tmp 114) (.const (.bool false)), 4, _, _, some (12, false)⟩) ?_
               simp only [Act.put, pA, pB, pC]
               refine tkA (.bool false) (oi := ⟨some 116, .pick (.tmp 97) (.const (.bool true)) (.tmp 115), 4, _, _, some (1, true)⟩) ?_
               simp only [Act.put, pA, pB, pC]
               refine tkA (.bool false) (oi := ⟨some 117, .pick (.tmp 86) (.tmp 116) (.const (.bool false)), 4, _, _, none⟩) ?_
               simp only [Act.put, pA, pB, pC]
               refine teA ?_
               refine tlA #[true, true, true, true, true, true, true, true, true, true, true, true, true, true, true, true, true, true, true, true, true, true, true, true, true, true, true, true, true, true, true, true, true] ?_
               refine wpAnyH_done (by kernel_rfl) ?_ _
               clear hHeld HS2
               go_wp2_with fail
               go_meet
               exact ⟨rfl, Lib.hid X0⟩
           case rest =>
            obtain ⟨rfl, HX⟩ := hcut
            have HXt := Lib.hid HX.out.tail
            clear HX HEE
            go_wp2_with fail
            go_roundw
            case rel => exact ⟨q + 1, by omega, by go_num, HXt⟩
            case measure => simp [RowKit.intOf]; omega
        ·have z1 : (alv == blv) = false := by simpa using hlv
         clear hlv
         have HGx := Lib.hid (HGk.out.then HP.out.low)
         clear HP
         go_wp2_with fail
         go_roundw
         case rel => exact ⟨k + 1, by omega, by go_num, HGx⟩
         case measure => simp [RowKit.intOf]; omega
       ·have c1 : ¬ (q : Int) < an := by omega
        have HGx := Lib.hid (HGk.out.then HP.out.low)
        clear HP
        go_wp2_with fail
        go_roundw
        case rel => exact ⟨k + 1, by omega, by go_num, HGx⟩
        case measure => simp [RowKit.intOf]; omega
    ·obtain rfl : k = i := by omega
     have b2 : ¬ ((k : Int) < k) := by omega
     go_wp2_with fail
     go_roundw
     case rel => exact ⟨k + 1, by omega, by go_num, HGk⟩
     case measure => simp [RowKit.intOf]; omega
  ·obtain rfl : i = n := by omega
   have b1 : ¬ ((i : Int) < i) := by omega
   obtain ⟨nn, hnn⟩ : ∃ nn, m1 % (i + 1) = nn := ⟨_, rfl⟩
   have hnn2 : nn ≤ i := by have := Nat.mod_lt m1 (show 0 < i + 1 by omega); rw [hnn] at this; omega
   have e1 : Int.tmod (m1 : Int) ((i : Int) + 1) = (nn : Int) := by
    rw [← hnn]; exact (Int.ofNat_tmod m1 (i + 1)).symm
   have e2 : (m1 : Int) % ((i : Int) + 1) = (nn : Int) := by rw [← hnn]; first | exact (Int.natCast_emod m1 (i + 1)).symm | exact (Int.ofNat_emod m1 (i + 1)).symm | (push_cast; rfl)
   have iw : IntKind.i64.wrap ((i : Int) + 1) = (i : Int) + 1 := by rw [IntKind.wrap_i64]; omega
   have e3 : ¬ (i : Int) + 1 = 0 := by omega
   have nw : IntKind.i64.wrap (nn : Int) = (nn : Int) := by rw [IntKind.wrap_i64]; omega
   have HGe := Lib.hid (HG.out.then HGi.out)
   have HWi := Lib.hid (HW.out.later HGi.out)
   clear hnn HGi
   generalize wi = wb at *
   obtain ⟨ps, hps, hrp, hrl⟩ := G.rowY_of HWi.out
   have HPS := Lib.hid hps
   have HPL := Lib.hid hrl
   have hpn : ps.length = i := by rw [← HN.out, ← hps, List.length_map]
   have HPN := Lib.hid hpn
   have HGT := Lib.hid (grpW_turned ws nn (by rw [HN.out]; exact hnn2))
   have HWK := Lib.hid HF.out.wk
   have HWT := Lib.hid (show ∀ t ∈ ws.drop nn ++ ws.take nn, WK t from fun t ht => (List.mem_append.1 ht).elim (fun h => HF.out.wk t (List.mem_of_mem_drop h)) (fun h => HF.out.wk t (List.mem_of_mem_take h)))
   have HLT := Lib.hid (show (ws.drop nn ++ ws.take nn).length = i by rw [List.length_append, List.length_drop, List.length_take, HN.out]; omega)
   have fin : ∀ (wx : World) (u : Value), G.Row G.tY wx u (ps.drop nn ++ ps.take nn) → Grows wb wx → RowW wx u (ws.drop nn ++ ws.take nn) := fun wx u h g =>
    G.RowY.row ⟨_, by rw [List.map_append, List.map_drop, List.map_take, HPS.out], h, fun p hp => (HPL.out p ((List.mem_append.1 hp).elim List.mem_of_mem_drop List.mem_of_mem_take)).later g⟩
   have FIN := Lib.hid fin
   clear fin hps hrl
   go_upto_region 24 with fail
   go_cut [16] (fun v wx => ∃ u, v = u ∧ Hid (RowW wx u (ws.drop nn ++ ws.take nn)) ∧ Hid (Grows wb wx))
   case first =>
    rcases HFl.out with he | ⟨g, n', c', he⟩
    ·injection he with he1 he2 he3
     subst he1 he2 he3
     obtain rfl : nn = 0 := by omega
     have HDr := Lib.hid (show G.Row G.tY wb (.slice none 0 0) (ps.drop 0) from by rw [List.drop_zero]; exact hrp)
     have HTk := Lib.hid (show G.Row G.tY wb (.slice none 0 0) (ps.take 0) from by rw [List.take_zero]; exact G.Row.nil _)
     clear hrp
     refine wp_region_held_drew (S := (fun wx => Grows wb wx)) (by kernel_rfl) ((Below.refl _ wb).drew) (fun hHeld => ?_)
     have G0 : Grows wb wb.drew := (Below.refl _ wb).drew
     generalize wb.drew = w0 at *
     refine tbA [1, 2, 3, 5, 6, 7] ?_
     refine tkA (.slice none 0 0) (oi := ⟨some 125, .move (.tmp 6), 23, _, _, none⟩) ?_
     simp only [Act.put, pA, pB, pC]
     refine tkA (.int .i64 0) (oi := ⟨some 126, .move (.tmp 15), 3, _, _, none⟩) ?_
     simp only [Act.put, pA, pB, pC]
     refine wpAnyT_take (oi := ⟨some 127, .slice 23 (.tmp 125) (some (.tmp 126)) none none, 23, _, _, none⟩) (v := .slice none 0 0) rfl (fun _ _ _ h => h) (by rfl) (by assumption) (fun wS hSw => ?_) ?_
     ·(try dsimp only at hSw); go_simp; try (first | (intro h; exfalso; omega) | (split <;> rename_i hz <;> first | rw [hoo1 hz] | rw [hoo2 hz]))
     simp only [Act.put, pA, pB, pC]
     refine tkA (.slice none 0 0) (oi := ⟨some 129, .move (.tmp 6), 23, _, _, none⟩) ?_
     simp only [Act.put, pA, pB, pC]
     refine tkA (.int .i64 0) (oi := ⟨some 130, .move (.tmp 15), 3, _, _, none⟩) ?_
     simp only [Act.put, pA, pB, pC]
     refine wpAnyT_take (oi := ⟨some 131, .slice 23 (.tmp 129) none (some (.tmp 130)) none, 23, _, _, none⟩) (v := .slice none 0 0) rfl (fun _ _ _ h => h) (by rfl) (by assumption) (fun wS hSw => ?_) ?_
     ·(try dsimp only at hSw); go_simp; try (first | (intro h; exfalso; omega) | (split <;> rename_i hz <;> first | rw [hoo1 hz] | rw [hoo2 hz]))
     simp only [Act.put, pA, pB, pC]
     refine teA ?_
     refine tlA #[false, true, true, true, false, true, true, true, false, false] ?_
     refine trA [0] ?_
     refine AllReadyH.cons (o := ⟨some 124, .buildSlice 23 0 #[], 23, _, _, none⟩) rfl (fun K hK => ?_) AllReadyH.nil
     go_simp
     have OA := G.own_empty (T := G.tY) (b := wb.heap.size) w0 44 G0.size
     have G1 := G0.then ((Below.refl _ w0).alloc (Nat.le_refl _) (.cells #[] 44))
     clear G0
     generalize w0.alloc (.cells #[] 44) = WA at *
     generalize w0.heap.size = PA at *
     clear hHeld
     refine hK.out _ _ (G1) (fun hHeld => ?_)
     clear hK K
     try simp only [List.setIfInBounds_toArray, List.set_cons_zero]
     refine tlA #[true, true, true, true, false, true, true, true, false, false] ?_
     refine trA [4] ?_
     refine AllReadyH.cons (o := ⟨some 128, .call { callee := .builtin .append, args := #[.tmp 124, .tmp 127], argTypes := #[23, 23] }, 23, _, _, none⟩) rfl (fun K hK => ?_) AllReadyH.nil
     refine G.step_append G.tY_ok rfl _ _ rfl rfl OA rfl (HDr.out.later G1) (by rw [List.length_drop, List.length_nil]; omega) G1.size ?_
     intro v1 WB OB hGB _
     have G2 := G.grow_append G1 OA (Nat.le_refl _) hGB
     rw [List.nil_append] at OB
     clear OA G1 hGB
     clear hHeld
     refine hK.out _ _ (G2) (fun hHeld => ?_)
     clear hK K
     try simp only [pA, pB, pC]
     refine tlA #[true, true, true, true, true, true, true, true, false, false] ?_
     refine trA [8] ?_
     refine AllReadyH.cons (o := ⟨some 132, .call { callee := .builtin .append, args := #[.tmp 128, .tmp 131], argTypes := #[23, 23] }, 23, _, _, none⟩) rfl (fun K hK => ?_) AllReadyH.nil
     refine G.step_append G.tY_ok rfl _ _ rfl rfl OB rfl (HTk.out.later G2) (by rw [List.length_drop, List.length_take]; omega) G2.size ?_
     intro v2 WD OD hGD _
     have G3 := G.grow_append G2 OB (Nat.le_refl _) hGD
     have HD := Lib.hid OD.row
     have HGD := Lib.hid G3
     clear OB G2 hGD OD
     clear hHeld
     refine hK.out _ _ (G3) (fun hHeld => ?_)
     clear hK K
     try simp only [pA, pB, pC]
     refine tlA #[true, true, true, true, true, true, true, true, true, false] ?_
     refine tbA [9] ?_
     refine tkA (v2) (oi := ⟨some 16, .assign (.tmp 132), 23, _, _, none⟩) ?_
     simp only [Act.put, pA, pB, pC]
     refine teA ?_
     refine tlA #[true, true, true, true, true, true, true, true, true, true] ?_
     refine wpAnyH_done (by kernel_rfl) ?_ _
     clear hHeld G3
     go_wp2_with fail
     go_meet
     exact ⟨_, rfl, Lib.hid (FIN.out _ _ HD.out HGD.out), HGD⟩
    ·injection he with he1 he2 he3
     subst he1 he2 he3
     obtain ⟨oo, hoo1, hoo2⟩ : ∃ oo : Nat, (cw = nn → oo = 0) ∧ (¬ cw = nn → oo = nn * 8) := ⟨if cw = nn then 0 else nn * 8, fun h => if_pos h, fun h => if_neg h⟩
     have hoo : oo = nn * 8 ∨ i = nn := by omega
     have HDr := Lib.hid (show G.Row G.tY wb (.slice (some ⟨g, oo, none⟩) (i - nn) (cw - nn)) (ps.drop nn) from G.Row.dropAt G.tY_ok hrp nn (by omega) hoo)
     have HTk := Lib.hid (show G.Row G.tY wb (.slice (some ⟨g, 0, none⟩) nn cw) (ps.take nn) from hrp.take nn (by omega))
     have n1 : (nn : Int) ≤ i := by omega
     have n2 : (0 : Int) ≤ nn := by omega
     have n3 : (nn : Int) ≤ cw := by omega
     clear hrp
     refine wp_region_held_drew (S := (fun wx => Grows wb wx)) (by kernel_rfl) ((Below.refl _ wb).drew) (fun hHeld => ?_)
     have G0 : Grows wb wb.drew := (Below.refl _ wb).drew
     generalize wb.drew = w0 at *
     refine tbA [1, 2, 3, 5, 6, 7] ?_
     refine tkA (.slice (some ⟨g, 0, none⟩) i cw) (oi := ⟨some 125, .move (.tmp 6), 23, _, _, none⟩) ?_
     simp only [Act.put, pA, pB, pC]
     refine tkA (.int .i64 nn) (oi := ⟨some 126, .move (.tmp 15), 3, _, _, none⟩) ?_
     simp only [Act.put, pA, pB, pC]
     refine wpAnyT_take (oi := ⟨some 127, .slice 23 (.tmp 125) (some (.tmp 126)) none none, 23, _, _, none⟩) (v := .slice (some ⟨g, oo, none⟩) (i - nn) (cw - nn)) rfl (fun _ _ _ h => h) (by rfl) (by assumption) (fun wS hSw => ?_) ?_
     ·(try dsimp only at hSw); go_simp; try (first | (intro h; exfalso; omega) | (split <;> rename_i hz <;> first | rw [hoo1 hz] | rw [hoo2 hz]))
     simp only [Act.put, pA, pB, pC]
     refine tkA (.slice (some ⟨g, 0, none⟩) i cw) (oi := ⟨some 129, .move (.tmp 6), 23, _, _, none⟩) ?_
     simp only [Act.put, pA, pB, pC]
     refine tkA (.int .i64 nn) (oi := ⟨some 130, .move (.tmp 15), 3, _, _, none⟩) ?_
     simp only [Act.put, pA, pB, pC]
     refine wpAnyT_take (oi := ⟨some 131, .slice 23 (.tmp 129) none (some (.tmp 130)) none, 23, _, _, none⟩) (v := .slice (some ⟨g, 0, none⟩) nn cw) rfl (fun _ _ _ h => h) (by rfl) (by assumption) (fun wS hSw => ?_) ?_
     ·(try dsimp only at hSw); go_simp; try (first | (intro h; exfalso; omega) | (split <;> rename_i hz <;> first | rw [hoo1 hz] | rw [hoo2 hz]))
     simp only [Act.put, pA, pB, pC]
     refine teA ?_
     refine tlA #[false, true, true, true, false, true, true, true, false, false] ?_
     refine trA [0] ?_
     refine AllReadyH.cons (o := ⟨some 124, .buildSlice 23 0 #[], 23, _, _, none⟩) rfl (fun K hK => ?_) AllReadyH.nil
     go_simp
     have OA := G.own_empty (T := G.tY) (b := wb.heap.size) w0 44 G0.size
     have G1 := G0.then ((Below.refl _ w0).alloc (Nat.le_refl _) (.cells #[] 44))
     clear G0
     generalize w0.alloc (.cells #[] 44) = WA at *
     generalize w0.heap.size = PA at *
     clear hHeld
     refine hK.out _ _ (G1) (fun hHeld => ?_)
     clear hK K
     try simp only [List.setIfInBounds_toArray, List.set_cons_zero]
     refine tlA #[true, true, true, true, false, true, true, true, false, false] ?_
     refine trA [4] ?_
     refine AllReadyH.cons (o := ⟨some 128, .call { callee := .builtin .append, args := #[.tmp 124, .tmp 127], argTypes := #[23, 23] }, 23, _, _, none⟩) rfl (fun K hK => ?_) AllReadyH.nil
     refine G.step_append G.tY_ok rfl _ _ rfl rfl OA rfl (HDr.out.later G1) (by rw [List.length_drop, List.length_nil]; omega) G1.size ?_
     intro v1 WB OB hGB _
     have G2 := G.grow_append G1 OA (Nat.le_refl _) hGB
     rw [List.nil_append] at OB
     clear OA G1 hGB
     clear hHeld
     refine hK.out _ _ (G2) (fun hHeld => ?_)
     clear hK K
     try simp only [pA, pB, pC]
     refine tlA #[true, true, true, true, true, true, true, true, false, false] ?_
     refine trA [8] ?_
     refine AllReadyH.cons (o := ⟨some 132, .call { callee := .builtin .append, args := #[.tmp 128, .tmp 131], argTypes := #[23, 23] }, 23, _, _, none⟩) rfl (fun K hK => ?_) AllReadyH.nil
     refine G.step_append G.tY_ok rfl _ _ rfl rfl OB rfl (HTk.out.later G2) (by rw [List.length_drop, List.length_take]; omega) G2.size ?_
     intro v2 WD OD hGD _
     have G3 := G.grow_append G2 OB (Nat.le_refl _) hGD
     have HD := Lib.hid OD.row
     have HGD := Lib.hid G3
     clear OB G2 hGD OD
     clear hHeld
     refine hK.out _ _ (G3) (fun hHeld => ?_)
     clear hK K
     try simp only [pA, pB, pC]
     refine tlA #[true, true, true, true, true, true, true, true, true, false] ?_
     refine tbA [9] ?_
     refine tkA (v2) (oi := ⟨some 16, .assign (.tmp 132), 23, _, _, none⟩) ?_
     simp only [Act.put, pA, pB, pC]
     refine teA ?_
     refine tlA #[true, true, true, true, true, true, true, true, true, true] ?_
     refine wpAnyH_done (by kernel_rfl) ?_ _
     clear hHeld G3
     go_wp2_with fail
     go_meet
     exact ⟨_, rfl, Lib.hid (FIN.out _ _ HD.out HGD.out), HGD⟩
   case rest =>
    obtain ⟨u, rfl, HU, HGu⟩ := hcut
    have HWu := Lib.hid (HWi.out.later HGu.out)
    have HGx := Lib.hid (HGe.out.then HGu.out)
    clear HWi
    go_wp2_with fail
    refine (groups_any HWK.out _ _ HWu.out (by rw [HN.out]; omega)).mono ?_
    rintro e v3 ⟨g1, rfl, G1, B1⟩
    have HG1 := Lib.hid G1.row
    have HUx := Lib.hid (HU.out.later B1)
    have HGx := Lib.hid (HGx.out.then B1)
    clear G1 B1
    go_wp2_with fail
    refine (groups_any HWT.out _ _ HUx.out (by rw [HLT.out]; omega)).mono ?_
    rintro e v4 ⟨g2, rfl, G2, B2⟩
    have HG2 := Lib.hid (HGT.out ▸ G2.row)
    have HG1 := Lib.hid (HG1.out.later B2)
    have HGx := Lib.hid (HGx.out.then B2)
    clear G2 B2
    go_wp2_with fail
    refine (samegroups_any _ _ _ _ HG1.out HG2.out).mono ?_
    rintro e v5 ⟨rfl, B3⟩
    have HGx := Lib.hid (HGx.out.then B3)
    clear B3
    go_wp2_with fail
    go_ret
    exact ⟨rfl, HGx.out⟩
end Go.Proofs.YtoaldbjcpfkcjaaGreat
