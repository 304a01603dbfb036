/- Fine of the reference: the made ways of a right network. -/
import Derived.Test.YtoaldbjcpfkcjaaGreatcOg
import Derived.Test.YtoaldbjcpfkcjaaGreatcMd
import Derived.Test.YtoaldbjcpfkcjaaGreatcRk
namespace Go.Proofs.YtoaldbjcpfkcjaaGreat.G
open Go.RowKit Go.Lib Go.Sort

theorem rowY_snoc {w : World} {v : Value} {ps : List Yw} {x : Yw} (h : Row tY w v (ps ++ [x])) (hp : ∀ p ∈ ps, RowP w p.v p.a.ln) (hx : RowP w x.v x.a.ln) : RowY w v (ps.map Yw.a ++ [x.a]) :=
 ⟨ps ++ [x], by rw [List.map_append]; rfl, h, fun p hq => (List.mem_append.1 hq).elim (hp p) fun q => by obtain rfl := List.mem_singleton.1 q; exact hx⟩
/-- What is known of the fine ways. -/
structure FnW (ws : List Wy) : Prop where
 chk : checkN ws = 0
 sub : ∃ ms, MdW ms ∧ List.Sublist ws ms
theorem FnW.len {ws : List Wy} (h : FnW ws) : ws.length ≤ 6 := by
 obtain ⟨ms, h1, h2⟩ := h.sub
 exact Nat.le_trans h2.length_le h1.len
theorem FnW.at' {ws : List Wy} (h : FnW ws) : ∀ t ∈ ws, (-1 ≤ t.lv ∧ t.lv ≤ 1) ∧ (1 ≤ t.wt ∧ t.wt ≤ 20) ∧ (2 ≤ t.ln.length ∧ t.ln.length ≤ 3) ∧ ∀ p ∈ t.ln, (0 ≤ p.1 ∧ p.1 ≤ 20) ∧ (0 ≤ p.2 ∧ p.2 ≤ 20) := by
 obtain ⟨ms, h1, h2⟩ := h.sub
 exact fun t ht => h1.at' t (h2.subset ht)
/-- A list that is nil, or begins a block. -/
def FlatV (u : Value) : Prop := u = .slice none 0 0 ∨ ∃ g n c, u = .slice (some ⟨g, 0, none⟩) n c
theorem own_flat {α : Type} {T : Ty α} {b : Nat} {w : World} {v : Value} {xs : List α} (h : Own T b w v xs) : FlatV v := by
 rcases h.2 with ⟨h1, h2⟩ | ⟨gl, c2, cur, h1, -⟩
 ·exact .inl h1
 ·exact .inr ⟨gl, _, c2, h1⟩
theorem take_snoc {ms : List Wy} {i : Nat} {t : Wy} (h : ms[i]? = some t) : ms.take (i + 1) = ms.take i ++ [t] := by rw [List.take_add_one, h]; rfl
set_option linter.unusedSimpArgs false in
set_option maxRecDepth 100000 in
set_option maxHeartbeats 8000000 in
theorem fine_any (v : Value) (xs : List Int) (w : World) (R : RowN w v xs) :
  Calls Tryz.prog 10 #[v] w fun e w' => ∃ u ws, e = .returned u ∧ RowW w' u ws ∧ FlatV u ∧ FnW ws ∧ Below w.heap.size w w' := by
 have HR := Lib.hid R
 obtain ⟨a, cap, rfl, -⟩ := R
 generalize xs.length = n at *
 go_enter Tryz.func10, Tryz.ntmps10
 go_wp2_with fail
 refine (made_any _ _ _ HR.out).mono ?_
 rintro e w1 ⟨vm, ms, rfl, hm, hM, g1⟩
 have HG1 := Lib.hid (show Grows w w1 from g1)
 clear g1 HR
 obtain ⟨am, m, cm, rfl, hml, hmc, hmm, RM⟩ := hm.form
 have HMW := Lib.hid hM
 have HML := Lib.hid hml
 have HRM := Lib.hid RM
 have h6 := hM.len
 rw [hml] at h6
 clear hm hM hml RM
 go_wp2_with fail
 go_loopw [4, 5] (fun o x wx => ∃ (i : Nat) (os : List Wy), i ≤ m ∧ x = .int .i64 i ∧ Hid (RowY wx o os) ∧ Hid (FlatV o) ∧ Hid (checkN os = 0) ∧ Hid (List.Sublist os (ms.take i)) ∧ Hid (Grows w1 wx)) (fun _ x _ => m - (RowKit.intOf x).toNat)
 case atStart => exact ⟨0, [], Nat.zero_le _, rfl, Lib.hid ⟨[], rfl, Row.nil _, fun _ h => by cases h⟩, Lib.hid (.inl rfl), Lib.hid rfl, Lib.hid (List.nil_sublist _), Lib.hid (Below.refl _ _)⟩
 case round =>
  obtain ⟨i, os, hi, rfl, HO, HFl, HC, HS, HGB⟩ := hrel
  generalize wr = wb at *
  obtain ⟨ps, rfl, hO, hOL⟩ := HO.out
  obtain ⟨ao, no, co, rfl, hno, hnc, hcm, RO⟩ := hO.form
  clear HO hO
  have HO := Lib.hid RO
  have HOL := Lib.hid hOL
  have hpl : ps.length ≤ 6 := by
   have h1 := HS.out.length_le
   rw [List.length_map, List.length_take] at h1
   omega
  clear RO hOL
  by_cases hil : i < m
  ·obtain ⟨t, ht⟩ : ∃ t, ms[i]? = some t := ⟨_, List.getElem?_eq_getElem (by rw [HML.out]; exact hil)⟩
   obtain ⟨gm, om, rfl, hq⟩ := HRM.out.spot (by rw [HML.out]; omega)
   obtain ⟨u, hu, c0, c1, c2, c3, c4, c5, c6, c7⟩ := hq i t ht
   obtain ⟨ua, un, uc, rfl⟩ := rowP_form hu
   have HT := Lib.hid (take_snoc ht)
   clear hq ht
   obtain ⟨⟨tid, tln, tlv, tcl, tnm, tst, twt, tds⟩, hT⟩ : ∃ t', t = t' := ⟨_, rfl⟩
   subst hT
   simp only [] at c0 c1 c2 c3 c4 c5 c6 c7
   have b2 : (i : Int) < m := by omega
   have b3 : (0 : Int) ≤ i := by omega
   have HM := Lib.hid (fun wx (hg : Grows wb wx) => show (wx.cell? ⟨gm, om + i * 8, none⟩ = some (.int .i64 tid) ∧ wx.cell? ⟨gm, om + i * 8 + 1, none⟩ = some (.slice ua un uc) ∧ wx.cell? ⟨gm, om + i * 8 + 2, none⟩ = some (.int .i64 tlv) ∧ wx.cell? ⟨gm, om + i * 8 + 3, none⟩ = some (.string tcl) ∧ wx.cell? ⟨gm, om + i * 8 + 4, none⟩ = some (.string tnm) ∧ wx.cell? ⟨gm, om + i * 8 + 5, none⟩ = some (.bool tst) ∧ wx.cell? ⟨gm, om + i * 8 + 6, none⟩ = some (.int .i64 twt) ∧ wx.cell? ⟨gm, om + i * 8 + 7, none⟩ = some (.int .i64 tds)) ∧ Grows wb wx from by
    have k : ∀ {ad : Addr} {v : Value}, w1.cell? ad = some v → wx.cell? ad = some v := fun {_ _} q => ((HGB.out.then hg).cell (World.block_lt_of_cell? _ _ q)).trans q
    exact ⟨⟨k c0, k c1, k c2, k c3, k c4, k c5, k c6, k c7⟩, hg⟩)
   clear c0 c1 c2 c3 c4 c5 c6 c7
   obtain ⟨x, hx⟩ : ∃ x : Yw, x = ⟨(ua, un, uc), ⟨tid, tln, tlv, tcl, tnm, tst, twt, tds⟩⟩ := ⟨_, rfl⟩
   have HU := Lib.hid (show RowP wb x.v x.a.ln by rw [hx]; exact hu.later HGB.out)
   clear hu
   go_upto_region 6 with fail
   go_cut [6] (fun v2 wx => ∃ v3, v2 = v3 ∧ Hid (RowY wx v3 (ps.map Yw.a ++ [x.a])) ∧ Hid (FlatV v3) ∧ Hid (Grows wb wx))
   case first =>
    refine wp_region_held_drew (S := (fun wx => (wx.cell? ⟨gm, om + i * 8, none⟩ = some (.int .i64 tid) ∧ wx.cell? ⟨gm, om + i * 8 + 1, none⟩ = some (.slice ua un uc) ∧ wx.cell? ⟨gm, om + i * 8 + 2, none⟩ = some (.int .i64 tlv) ∧ wx.cell? ⟨gm, om + i * 8 + 3, none⟩ = some (.string tcl) ∧ wx.cell? ⟨gm, om + i * 8 + 4, none⟩ = some (.string tnm) ∧ wx.cell? ⟨gm, om + i * 8 + 5, none⟩ = some (.bool tst) ∧ wx.cell? ⟨gm, om + i * 8 + 6, none⟩ = some (.int .i64 twt) ∧ wx.cell? ⟨gm, om + i * 8 + 7, none⟩ = some (.int .i64 tds)) ∧ Grows wb wx)) (by kernel_rfl) (HM.out _ (Below.refl _ wb).drew) (fun hHeld => ?_)
    have G : Grows wb wb.drew := (Below.refl _ wb).drew
    refine tbA [1, 3, 4, 5, 6] ?_
    refine tkA (.slice ao no co) (oi := ⟨some 16, .move (.tmp 4), 23, _, _, none⟩) ?_
    simp only [Act.put, pA, pB, pC]
    refine tkA (.slice (some ⟨gm, om, none⟩) m cm) (oi := ⟨some 18, .move (.tmp 3), 23, _, _, none⟩) ?_
    simp only [Act.put, pA, pB, pC]
    refine tkA (.int .i64 i) (oi := ⟨some 19, .move (.tmp 5), 3, _, _, none⟩) ?_
    simp only [Act.put, pA, pB, pC]
    refine tkA (.pointer (some ⟨gm, om + i * 8, none⟩)) (oi := ⟨some 20, .indexAddr 23 (.tmp 18) (.tmp 19), 0, _, _, none⟩) ?_
    simp only [Act.put, pA, pB, pC]
    refine tkA (.agg #[.int .i64 tid, .slice ua un uc, .int .i64 tlv, .string tcl, .string tnm, .bool tst, .int .i64 twt, .int .i64 tds]) (oi := ⟨some 21, .load 44 (.tmp 20), 44, _, _, none⟩) ?_
    simp only [Act.put, pA, pB, pC]
    refine teA ?_
    refine tlA #[false, true, false, true, true, true, true, false, false, false] ?_
    generalize wb.drew = w0 at *
    refine trA [0, 7] ?_
    refine AllReadyH.cons (o := ⟨some 15, .buildSlice 23 0 #[], 23, _, _, none⟩) rfl (fun K hK => ?_) ?_
    ·go_simp
     have OA := own_empty (T := tY) (b := wb.heap.size) w0 44 G.size
     have G1 := G.then ((Below.refl _ w0).alloc (Nat.le_refl _) (.cells #[] 44))
     clear G
     have G := G1
     clear G1
     have hPA : w0.heap.size = w0.heap.size := rfl
     obtain ⟨PA, hPA⟩ : ∃ PA, w0.heap.size = PA := ⟨_, rfl⟩
     rw [hPA] at OA ⊢
     have hlA : PA < (w0.alloc (.cells #[] 44)).heap.size := by rw [size_alloc]; omega
     generalize w0.alloc (.cells #[] 44) = WA at *
     clear hPA
     clear hHeld
     refine hK.out _ _ (HM.out _ G) (fun hHeld => ?_)
     clear hK K
     try simp only [List.setIfInBounds_toArray, List.set_cons_zero]
     refine tlA #[true, true, false, true, true, true, true, false, false, false] ?_
     refine trA [2, 7] ?_
     refine AllReadyH.cons (o := ⟨some 17, .call { callee := .builtin .append, args := #[.tmp 15, .tmp 16], argTypes := #[23, 23] }, 23, _, _, none⟩) rfl (fun K hK => ?_) ?_
     ·refine step_append tY_ok rfl _ _ rfl rfl OA rfl (HO.out.later G) (by first | (simp; done) | (simp only [List.length_nil, List.length_take]; omega)) G.size ?_
      intro v1 WB OB hGB _
      have G1 := grow_append G OA (Nat.le_refl _) hGB
      rw [List.nil_append] at OB
      clear hlA
      clear G OA hGB
      have G := G1
      clear G1
      clear hHeld
      refine hK.out _ _ (HM.out _ G) (fun hHeld => ?_)
      clear hK K
      try simp only [pA, pB, pC]
      refine tlA #[true, true, true, true, true, true, true, false, false, false] ?_
      refine trA [7] ?_
      refine AllReadyH.cons (o := ⟨some 22, .buildSlice 23 1 #[(0, .tmp 21)], 23, _, _, none⟩) rfl (fun K hK => ?_) AllReadyH.nil
      go_simp
      have RC : Row tY (WB.alloc (.cells #[.int .i64 tid, .slice ua un uc, .int .i64 tlv, .string tcl, .string tnm, .bool tst, .int .i64 twt, .int .i64 tds] 44)) (.slice (some ⟨WB.heap.size, 0, none⟩) 1 1) [x] := (by rw [hx]; exact row_one (T := tY) WB 44 ⟨(ua, un, uc), ⟨tid, tln, tlv, tcl, tnm, tst, twt, tds⟩⟩ _ rfl)
      have G1 := G.then ((Below.refl _ WB).alloc (Nat.le_refl _) (.cells #[.int .i64 tid, .slice ua un uc, .int .i64 tlv, .string tcl, .string tnm, .bool tst, .int .i64 twt, .int .i64 tds] 44))
      clear G
      have G := G1
      clear G1
      have OB1 := OB.later ((Below.refl _ WB).alloc (Nat.le_refl _) (.cells #[.int .i64 tid, .slice ua un uc, .int .i64 tlv, .string tcl, .string tnm, .bool tst, .int .i64 twt, .int .i64 tds] 44))
      clear OB
      have OB := OB1
      clear OB1
      obtain ⟨PC, hPC⟩ : ∃ PC, WB.heap.size = PC := ⟨_, rfl⟩
      rw [hPC] at RC ⊢
      generalize WB.alloc (.cells #[.int .i64 tid, .slice ua un uc, .int .i64 tlv, .string tcl, .string tnm, .bool tst, .int .i64 twt, .int .i64 tds] 44) = WC at *
      clear hPC
      clear hHeld
      refine hK.out _ _ (HM.out _ G) (fun hHeld => ?_)
      clear hK K
      try simp only [pA, pB, pC]
      refine tlA #[true, true, true, true, true, true, true, true, false, false] ?_
      refine trA [8] ?_
      refine AllReadyH.cons (o := ⟨some 23, .call { callee := .builtin .append, args := #[.tmp 17, .tmp 22], argTypes := #[23, 23] }, 23, _, _, none⟩) rfl (fun K hK => ?_) AllReadyH.nil
      refine step_append tY_ok rfl _ _ rfl rfl OB rfl RC (by first | (simp; done) | (simp only [List.length_singleton, List.length_take]; omega)) G.size ?_
      intro v2 WD OD hGD _
      have G1 := grow_append G OB (Nat.le_refl _) hGD
      clear G OB RC hGD
      have G := G1
      clear G1
      clear hHeld
      refine hK.out _ _ (HM.out _ G) (fun hHeld => ?_)
      clear hK K
      try simp only [pA, pB, pC]
      refine tlA #[true, true, true, true, true, true, true, true, true, false] ?_
      refine trA [9] ?_
      refine AllReadyH.cons (o := ⟨some 6, .assign (.tmp 23), 23, _, _, none⟩) rfl (fun K hK => ?_) AllReadyH.nil
      go_wp2_with fail
      clear hHeld
      refine hK.out _ _ (HM.out _ G) (fun hHeld => ?_)
      clear hK K
      try simp only [pA, pB, pC]
      refine tlA #[true, true, true, true, true, true, true, true, true, true] ?_
      refine wpAnyH_done (by kernel_rfl) ?_ _
      clear hHeld
      go_wp2_with fail
      go_meet
      exact ⟨v2, rfl, Lib.hid (rowY_snoc OD.row (fun p hp => (HOL.out p hp).later G) (HU.out.later G)), Lib.hid (own_flat OD), Lib.hid G⟩
     refine AllReadyH.cons (o := ⟨some 22, .buildSlice 23 1 #[(0, .tmp 21)], 23, _, _, none⟩) rfl (fun K hK => ?_) AllReadyH.nil
     go_simp
     have RC : Row tY (WA.alloc (.cells #[.int .i64 tid, .slice ua un uc, .int .i64 tlv, .string tcl, .string tnm, .bool tst, .int .i64 twt, .int .i64 tds] 44)) (.slice (some ⟨WA.heap.size, 0, none⟩) 1 1) [x] := (by rw [hx]; exact row_one (T := tY) WA 44 ⟨(ua, un, uc), ⟨tid, tln, tlv, tcl, tnm, tst, twt, tds⟩⟩ _ rfl)
     have G1 := G.then ((Below.refl _ WA).alloc (Nat.le_refl _) (.cells #[.int .i64 tid, .slice ua un uc, .int .i64 tlv, .string tcl, .string tnm, .bool tst, .int .i64 twt, .int .i64 tds] 44))
     clear G
     have G := G1
     clear G1
     have OA1 := OA.later ((Below.refl _ WA).alloc (Nat.le_refl _) (.cells #[.int .i64 tid, .slice ua un uc, .int .i64 tlv, .string tcl, .string tnm, .bool tst, .int .i64 twt, .int .i64 tds] 44))
     clear OA
     have OA := OA1
     clear OA1
     obtain ⟨PC, hPC⟩ : ∃ PC, WA.heap.size = PC := ⟨_, rfl⟩
     rw [hPC] at RC ⊢
     have hne : PC ≠ PA := by omega
     generalize WA.alloc (.cells #[.int .i64 tid, .slice ua un uc, .int .i64 tlv, .string tcl, .string tnm, .bool tst, .int .i64 twt, .int .i64 tds] 44) = WC at *
     clear hPC
     clear hlA
     clear hHeld
     refine hK.out _ _ (HM.out _ G) (fun hHeld => ?_)
     clear hK K
     try simp only [pA, pB, pC]
     refine tlA #[true, true, false, true, true, true, true, true, false, false] ?_
     refine trA [2] ?_
     refine AllReadyH.cons (o := ⟨some 17, .call { callee := .builtin .append, args := #[.tmp 15, .tmp 16], argTypes := #[23, 23] }, 23, _, _, none⟩) rfl (fun K hK => ?_) AllReadyH.nil
     refine step_append tY_ok rfl _ _ rfl rfl OA rfl (HO.out.later G) (by first | (simp; done) | (simp only [List.length_nil, List.length_take]; omega)) G.size ?_
     intro v1 WB OB hGB _
     have G1 := grow_append G OA (Nat.le_refl _) hGB
     rw [List.nil_append] at OB
     have RC1 := RC.kept hGB (by simp only [Value.ownBlock]; intro e; injection e with e; exact hne e.symm)
     clear RC hne
     have RC := RC1
     clear RC1
     clear G OA hGB
     have G := G1
     clear G1
     clear hHeld
     refine hK.out _ _ (HM.out _ G) (fun hHeld => ?_)
     clear hK K
     try simp only [pA, pB, pC]
     refine tlA #[true, true, true, true, true, true, true, true, false, false] ?_
     refine trA [8] ?_
     refine AllReadyH.cons (o := ⟨some 23, .call { callee := .builtin .append, args := #[.tmp 17, .tmp 22], argTypes := #[23, 23] }, 23, _, _, none⟩) rfl (fun K hK => ?_) AllReadyH.nil
     refine step_append tY_ok rfl _ _ rfl rfl OB rfl RC (by first | (simp; done) | (simp only [List.length_singleton, List.length_take]; omega)) G.size ?_
     intro v2 WD OD hGD _
     have G1 := grow_append G OB (Nat.le_refl _) hGD
     clear G OB RC hGD
     have G := G1
     clear G1
     clear hHeld
     refine hK.out _ _ (HM.out _ G) (fun hHeld => ?_)
     clear hK K
     try simp only [pA, pB, pC]
     refine tlA #[true, true, true, true, true, true, true, true, true, false] ?_
     refine trA [9] ?_
     refine AllReadyH.cons (o := ⟨some 6, .assign (.tmp 23), 23, _, _, none⟩) rfl (fun K hK => ?_) AllReadyH.nil
     go_wp2_with fail
     clear hHeld
     refine hK.out _ _ (HM.out _ G) (fun hHeld => ?_)
     clear hK K
     try simp only [pA, pB, pC]
     refine tlA #[true, true, true, true, true, true, true, true, true, true] ?_
     refine wpAnyH_done (by kernel_rfl) ?_ _
     clear hHeld
     go_wp2_with fail
     go_meet
     exact ⟨v2, rfl, Lib.hid (rowY_snoc OD.row (fun p hp => (HOL.out p hp).later G) (HU.out.later G)), Lib.hid (own_flat OD), Lib.hid G⟩
    refine AllReadyH.cons (o := ⟨some 22, .buildSlice 23 1 #[(0, .tmp 21)], 23, _, _, none⟩) rfl (fun K hK => ?_) AllReadyH.nil
    go_simp
    have RC : Row tY (w0.alloc (.cells #[.int .i64 tid, .slice ua un uc, .int .i64 tlv, .string tcl, .string tnm, .bool tst, .int .i64 twt, .int .i64 tds] 44)) (.slice (some ⟨w0.heap.size, 0, none⟩) 1 1) [x] := (by rw [hx]; exact row_one (T := tY) w0 44 ⟨(ua, un, uc), ⟨tid, tln, tlv, tcl, tnm, tst, twt, tds⟩⟩ _ rfl)
    have G1 := G.then ((Below.refl _ w0).alloc (Nat.le_refl _) (.cells #[.int .i64 tid, .slice ua un uc, .int .i64 tlv, .string tcl, .string tnm, .bool tst, .int .i64 twt, .int .i64 tds] 44))
    clear G
    have G := G1
    clear G1
    obtain ⟨PC, hPC⟩ : ∃ PC, w0.heap.size = PC := ⟨_, rfl⟩
    rw [hPC] at RC ⊢
    have hlC : PC < (w0.alloc (.cells #[.int .i64 tid, .slice ua un uc, .int .i64 tlv, .string tcl, .string tnm, .bool tst, .int .i64 twt, .int .i64 tds] 44)).heap.size := by rw [size_alloc]; omega
    generalize w0.alloc (.cells #[.int .i64 tid, .slice ua un uc, .int .i64 tlv, .string tcl, .string tnm, .bool tst, .int .i64 twt, .int .i64 tds] 44) = WC at *
    clear hPC
    clear hHeld
    refine hK.out _ _ (HM.out _ G) (fun hHeld => ?_)
    clear hK K
    try simp only [pA, pB, pC]
    refine tlA #[false, true, false, true, true, true, true, true, false, false] ?_
    refine trA [0] ?_
    refine AllReadyH.cons (o := ⟨some 15, .buildSlice 23 0 #[], 23, _, _, none⟩) rfl (fun K hK => ?_) AllReadyH.nil
    go_simp
    have OA := own_empty (T := tY) (b := wb.heap.size) WC 44 G.size
    have G1 := G.then ((Below.refl _ WC).alloc (Nat.le_refl _) (.cells #[] 44))
    have RC1 := RC.later ((Below.refl _ WC).alloc (Nat.le_refl _) (.cells #[] 44))
    clear RC
    have RC := RC1
    clear RC1
    clear G
    have G := G1
    clear G1
    have hPA : WC.heap.size = WC.heap.size := rfl
    obtain ⟨PA, hPA⟩ : ∃ PA, WC.heap.size = PA := ⟨_, rfl⟩
    rw [hPA] at OA ⊢
    have hne : PC ≠ PA := by omega
    generalize WC.alloc (.cells #[] 44) = WA at *
    clear hPA
    clear hlC
    clear hHeld
    refine hK.out _ _ (HM.out _ G) (fun hHeld => ?_)
    clear hK K
    try simp only [List.setIfInBounds_toArray, List.set_cons_zero]
    refine tlA #[true, true, false, true, true, true, true, true, false, false] ?_
    refine trA [2] ?_
    refine AllReadyH.cons (o := ⟨some 17, .call { callee := .builtin .append, args := #[.tmp 15, .tmp 16], argTypes := #[23, 23] }, 23, _, _, none⟩) rfl (fun K hK => ?_) AllReadyH.nil
    refine step_append tY_ok rfl _ _ rfl rfl OA rfl (HO.out.later G) (by first | (simp; done) | (simp only [List.length_nil, List.length_take]; omega)) G.size ?_
    intro v1 WB OB hGB _
    have G1 := grow_append G OA (Nat.le_refl _) hGB
    rw [List.nil_append] at OB
    have RC1 := RC.kept hGB (by simp only [Value.ownBlock]; intro e; injection e with e; exact hne e.symm)
    clear RC hne
    have RC := RC1
    clear RC1
    clear G OA hGB
    have G := G1
    clear G1
    clear hHeld
    refine hK.out _ _ (HM.out _ G) (fun hHeld => ?_)
    clear hK K
    try simp only [pA, pB, pC]
    refine tlA #[true, true, true, true, true, true, true, true, false, false] ?_
    refine trA [8] ?_
    refine AllReadyH.cons (o := ⟨some 23, .call { callee := .builtin .append, args := #[.tmp 17, .tmp 22], argTypes := #[23, 23] }, 23, _, _, none⟩) rfl (fun K hK => ?_) AllReadyH.nil
    refine step_append tY_ok rfl _ _ rfl rfl OB rfl RC (by first | (simp; done) | (simp only [List.length_singleton, List.length_take]; omega)) G.size ?_
    intro v2 WD OD hGD _
    have G1 := grow_append G OB (Nat.le_refl _) hGD
    clear G OB RC hGD
    have G := G1
    clear G1
    clear hHeld
    refine hK.out _ _ (HM.out _ G) (fun hHeld => ?_)
    clear hK K
    try simp only [pA, pB, pC]
    refine tlA #[true, true, true, true, true, true, true, true, true, false] ?_
    refine trA [9] ?_
    refine AllReadyH.cons (o := ⟨some 6, .assign (.tmp 23), 23, _, _, none⟩) rfl (fun K hK => ?_) AllReadyH.nil
    go_wp2_with fail
    clear hHeld
    refine hK.out _ _ (HM.out _ G) (fun hHeld => ?_)
    clear hK K
    try simp only [pA, pB, pC]
    refine tlA #[true, true, true, true, true, true, true, true, true, true] ?_
    refine wpAnyH_done (by kernel_rfl) ?_ _
    clear hHeld
    go_wp2_with fail
    go_meet
    exact ⟨v2, rfl, Lib.hid (rowY_snoc OD.row (fun p hp => (HOL.out p hp).later G) (HU.out.later G)), Lib.hid (own_flat OD), Lib.hid G⟩
   case rest =>
    obtain ⟨v3, rfl, HY, HFx, HGx⟩ := hcut
    have HS2 := Lib.hid (show List.Sublist (ps.map Yw.a ++ [x.a]) (ms.take (i + 1)) by rw [HT.out, hx]; exact HS.out.append (List.Sublist.refl _))
    have HS3 := Lib.hid (show List.Sublist (ps.map Yw.a) (ms.take (i + 1)) by rw [HT.out]; exact HS.out.trans (List.sublist_append_left _ _))
    clear hx HT HM HU
    have HGn := Lib.hid (HGB.out.then HGx.out)
    have HWx := Lib.hid (RowY.row HY.out)
    go_wp2_with fail
    refine (rchk14_any _ _ _ HWx.out).mono ?_
    rintro e w9 ⟨rfl, g9⟩
    have HGn := Lib.hid (HGn.out.then g9)
    have HY := Lib.hid (HY.out.later g9)
    have HY0 := Lib.hid (show RowY w9 (.slice ao no co) (ps.map Yw.a) from ⟨ps, rfl, HO.out.later (HGx.out.then g9), fun p hp => (HOL.out p hp).later (HGx.out.then g9)⟩)
    clear g9
    by_cases hc : checkN (ps.map Yw.a ++ [x.a]) = 0
    ·have z0 : (checkN (ps.map Yw.a ++ [x.a]) == 0) = true := by simpa using hc
     have HC2 := Lib.hid hc
     clear hc
     go_wp2_with fail
     go_roundw
     case rel => exact ⟨i + 1, _, by omega, by go_num, HY, HFx, HC2, HS2, HGn⟩
     case measure => simp [RowKit.intOf]; omega
    ·have z0 : (checkN (ps.map Yw.a ++ [x.a]) == 0) = false := by simpa using hc
     clear hc
     go_wp2_with fail
     go_roundw
     case rel => exact ⟨i + 1, _, by omega, by go_num, HY0, HFl, HC, HS3, HGn⟩
     case measure => simp [RowKit.intOf]; omega
  ·obtain rfl : i = m := by omega
   have b2 : ¬ ((i : Int) < i) := by omega
   have HRW := Lib.hid (show RowW _ _ _ from RowY.row ⟨ps, rfl, HO.out, HOL.out⟩)
   have HS2 := Lib.hid (show List.Sublist (ps.map Yw.a) ms by have := HS.out; rwa [List.take_of_length_le (by rw [HML.out]; exact Nat.le_refl _)] at this)
   clear HO HOL HS
   go_wp2_with fail
   go_ret
   exact ⟨_, rfl, _, HRW.out, HFl.out, ⟨HC.out, _, HMW.out, HS2.out⟩, HG1.out.then HGB.out⟩
end Go.Proofs.YtoaldbjcpfkcjaaGreat.G
