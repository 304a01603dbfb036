/- The walk of GazetteNamed. -/
import Derived.Test.YtiliommilcifeaaMc
namespace Go.Proofs.Ytiliommilcifeaa
open Go.RowKit Go.Lib Go.Sort

def namesL (tc : List UInt8) (L : List Pl) (k : Nat) : List (List UInt8) := tc :: [] :: (L.take k).map Pl.nm
theorem namesL_next {tc : List UInt8} {L : List Pl} {k : Nat} {p : Pl} (h : L[k]? = some p) : namesL tc L (k + 1) = namesL tc L k ++ [p.nm] := by
  obtain ⟨h1, h2⟩ := List.getElem?_eq_some_iff.1 h
  unfold namesL
  rw [List.take_succ_eq_append_getElem h1, List.map_append, h2]; rfl
theorem namesL_length (tc : List UInt8) (L : List Pl) (k : Nat) : (namesL tc L k).length ≤ k + 2 := by
  unfold namesL
  simp only [List.length_cons, List.length_map, List.length_take]; omega
theorem mod3 (k r : Nat) (h : k % 3 = r) : Int.tmod (k : Int) 3 = (r : Int) ∧ (k : Int) % 3 = (r : Int) := ⟨by rw [← h]; rfl, by omega⟩
set_option maxRecDepth 100000 in
set_option maxHeartbeats 16000000 in
theorem namedl_any (v : Value) (ps : List Pl) (t : List UInt8) (w : World) (hv : Row tP w v ps) (hg : ∀ p ∈ ps, p.good) (ht : (t.length : Int) ≤ 9223372036854775807) :
    Calls Try.prog 8 #[v, str t] w fun e w' => e = .returned (.bool true) ∧ Grows w w' := by
  have HVr := Lib.hid hv
  have hv0 := hv.form
  obtain ⟨a, n0, c, rfl, -, -, -, -⟩ := hv0
  clear hv
  have HLen := Lib.hid (cutPs_length ps)
  have HPl := Lib.hid (fun w' (g : Grows w w') => places_any _ ps w' (HVr.out.later g) hg)
  have HC := Lib.hid (fun w => cut_any t ht w)
  generalize cutPs ps = L at *
  generalize t.take 40 = tc at *
  clear hg ht
  unfold str at *
  go_enter Try.func8, Try.ntmps8
  go_wp2_with fail
  refine (sane_any w).mono ?_
  rintro e w1 ⟨rfl, g1⟩
  go_wp2_with fail
  refine (HPl.out _ g1).mono ?_
  rintro e w2 ⟨⟨u, rfl, hO⟩, g2⟩
  have HR := Lib.hid hO.row
  have HG := Lib.hid (g1.then g2)
  obtain ⟨ua, uc, rfl, -, -⟩ := hO.form
  obtain ⟨n, hn⟩ : ∃ n, L.length = n := ⟨_, rfl⟩
  rw [hn] at HLen HR ⊢
  have HN := Lib.hid hn
  have hn10 := HLen.out
  have hM : Has w2 [(w2.heap.size, [.slice none 0 0, .slice none 0 0, .slice none 0 0, .slice none 0 0])] (w2.alloc (.cells #[.slice none 0 0, .slice none 0 0, .slice none 0 0, .slice none 0 0] 32)) := has1 _ _
  have hS : Own tS (w2.heap.size + 1) ((w2.alloc (.cells #[.slice none 0 0, .slice none 0 0, .slice none 0 0, .slice none 0 0] 32)).alloc (.cells #[.string ⟨tc.toArray⟩, .string ⟨(#[] : Array UInt8)⟩] 9)) (.slice (some ⟨w2.heap.size + 1, 0, none⟩) 2 2) [tc, []] := by
    have h0 := World.ownsRow_lit (w2.alloc (.cells #[.slice none 0 0, .slice none 0 0, .slice none 0 0, .slice none 0 0] 32)) #[.string ⟨tc.toArray⟩, .string ⟨(#[] : Array UInt8)⟩] 2 (base := w2.heap.size + 1) (e := 9) (size := 1) (by simp) (by decide) rfl
    rw [size_alloc] at h0
    exact h0
  clear hO g1 g2 HPl HVr hn
  go_upto_region 5 with (go_at_call 10; refine (HC.out _).mono ?_; rintro e w3 ⟨rfl, rfl⟩)
  have S0 := Lib.hid (show St w2 w2.heap.size (.slice none 0 0) (.slice none 0 0) (.slice none 0 0) (.slice (some ⟨w2.heap.size + 1, 0, none⟩) 2 2) (sel 1 L 0) (sel 0 L 0) (namesL tc L 0) _ from ⟨hM.alloc (.cells #[.string ⟨tc.toArray⟩, .string ⟨(#[] : Array UInt8)⟩] 9), Own.nil _ _, Own.nil _ _, hS⟩)
  have P0 := Lib.hid (show Own tP (w2.heap.size + 1) ((w2.alloc (.cells #[.slice none 0 0, .slice none 0 0, .slice none 0 0, .slice none 0 0] 32)).alloc (.cells #[.string ⟨tc.toArray⟩, .string ⟨(#[] : Array UInt8)⟩] 9)) (.slice none 0 0) (selP L 0) from Own.nil _ _)
  clear hM hS HC
  generalize (w2.alloc _).alloc _ = w4 at *
  obtain ⟨M, hMM⟩ : ∃ M, w2.heap.size = M := ⟨_, rfl⟩
  rw [hMM] at S0 P0 ⊢
  clear hMM
  go_wp2_with fail
  go_loopw [7, 23] (fun vn x wx => ∃ k : Nat, k ≤ n ∧ x = .int .i64 k ∧ Hid (∃ vf vw vp, St w2 M vf vw vp vn (sel 1 L k) (sel 0 L k) (namesL tc L k) wx ∧ Own tP (M + 1) wx vp (selP L k))) (fun _ x _ => n - (RowKit.intOf x).toNat)
  case atStart => exact ⟨0, Nat.zero_le _, rfl, Lib.hid ⟨_, _, _, S0.out, P0.out⟩⟩
  case round =>
    obtain ⟨k, hk, rfl, HI⟩ := hrel
    clear S0 P0
    obtain ⟨vf, vw, vp, hSt, hPl⟩ := HI.out
    have HS := Lib.hid hSt
    have HP := Lib.hid hPl
    clear HI hSt hPl
    by_cases hlt : k < n
    · obtain ⟨p, hp⟩ : ∃ p, L[k]? = some p := ⟨_, List.getElem?_eq_getElem (by rw [HN.out]; exact hlt)⟩
      obtain ⟨b, o, rfl, -⟩ := HR.out.spot tP_ok (by rw [HN.out]; omega)
      obtain ⟨c0, c1, c2, c3, c4, c5, c6⟩ := (HR.out.later HS.out.h.low).place hp
      have HNx := Lib.hid (namesL_next (tc := tc) hp)
      have hnl := namesL_length tc L k
      have HNm := Lib.hid (nmAt_is hp)
      have hl0 := sel_length 0 L k
      have hl1 := sel_length 1 L k
      have hl2 := selP_length L k
      have b1 : (k : Int) < n := by omega
      have b2 : (0 : Int) ≤ k := by omega
      have HB : Has wr [(wr.heap.size, p.cells)] (wr.alloc (.cells p.cells.toArray 36)) := has1 _ _
      have HS1 := Lib.hid (HS.out.later HB.low)
      have HP1 := Lib.hid (HP.out.later HB.low)
      have HS2 := Lib.hid (HS1.out.later (w' := (wr.alloc (.cells p.cells.toArray 36)).alloc (.cells #[.string ⟨p.nm.toArray⟩] 9)) ((Below.refl _ _).alloc (Nat.le_refl _) _))
      have HP2 := Lib.hid (HP1.out.later (w' := (wr.alloc (.cells p.cells.toArray 36)).alloc (.cells #[.string ⟨p.nm.toArray⟩] 9)) ((Below.refl _ _).alloc (Nat.le_refl _) _))
      have HR1 := Lib.hid (show Row tS ((wr.alloc (.cells p.cells.toArray 36)).alloc (.cells #[.string ⟨p.nm.toArray⟩] 9)) (.slice (some ⟨(wr.alloc (.cells p.cells.toArray 36)).heap.size, 0, none⟩) 1 1) [p.nm] from row_one _ 9 p.nm _ rfl)
      have hmb : M + 1 ≤ ((wr.alloc (.cells p.cells.toArray 36)).alloc (.cells #[.string ⟨p.nm.toArray⟩] 9)).heap.size := HS2.out.h.lt _ (.head _)
      have HSn := Lib.hid HS.out.n
      have HB2 := HB.later (w' := (wr.alloc (.cells p.cells.toArray 36)).alloc (.cells #[.string ⟨p.nm.toArray⟩] 9)) ((Below.refl _ _).alloc (Nat.le_refl _) _)
      clear hp HS HP HS1 HP1
      unfold Pl.cells str at HB HB2 HS2 HP2 HR1 hmb
      unfold str at c3 c4
      go_upto_region 8 with fail
      generalize hw1 : wr.alloc _ = wa at *
      generalize hP : wr.heap.size = P at *
      clear c0 c1 c2 c3 c5 c6 c4
      have d4 := HB.fact (.head _) (i := 4) rfl
      have d4b := HB2.fact (.head _) (i := 4) rfl
      simp only [] at d4 d4b
      clear HB HB2 hw1
      generalize p.nm = nm at *
      go_upto_region 9 with (at_builtin; refine wpList_append tS_ok rfl _ _ rfl rfl HS2.out.n rfl HR1.out (by simp only [List.length_singleton]; omega) hmb ?_; intro v' wb hO6 hG3 _)
      have hG3 : World.grownBy _ wb (Value.ownBlock u7) := hG3
      have d5 := hG3.cell d4b (fun e => by have := (HSn.out.lt e.symm).2; simp only at this; omega)
      have HS3 := Lib.hid (HNx.out ▸ HS2.out.names hO6 hG3)
      have HP3 := Lib.hid (HP2.out.apart HS2.out.n (by decide) hG3)
      clear d4 d4b HS2 HP2 HR1 hmb hO6 hG3 HSn hP HNx
      have hm3 : k % 3 = 0 ∨ k % 3 = 1 ∨ k % 3 = 2 := by omega
      rcases hm3 with hm | hm | hm
      · obtain ⟨q1, q2⟩ : Int.tmod (k : Int) 3 = 0 ∧ (k : Int) % 3 = 0 := mod3 k 0 hm
        have HE1 := Lib.hid (show sel 1 L (k + 1) = sel 1 L k by rw [sel, if_neg (by omega), List.append_nil])
        have HE0 := Lib.hid (show sel 0 L (k + 1) = sel 0 L k ++ [(⟨(k : Int), nm⟩ : Fc)] by rw [sel, if_pos hm, HNm.out])
        have HEP := Lib.hid (show selP L (k + 1) = selP L k by rw [selP, if_neg (by omega), List.append_nil])
        have m0 := HS3.out.h.fact (.head _) (i := 2) rfl
        simp only [] at m0
        have gA : Grows wb (wb.alloc (.cells #[.int .i64 (k : Int), .slice none 0 0, .int .i64 0, .string ByteArray.empty, .string ⟨nm.toArray⟩, .bool false, .int .i64 0, .int .i64 0] 41)) := (Below.refl _ _).alloc (Nat.le_refl _) _
        have HS4 := Lib.hid (HS3.out.later gA)
        have HP4 := Lib.hid (HP3.out.later gA)
        have HR1 := Lib.hid (show Row tW (wb.alloc (.cells #[.int .i64 (k : Int), .slice none 0 0, .int .i64 0, .string ByteArray.empty, .string ⟨nm.toArray⟩, .bool false, .int .i64 0, .int .i64 0] 41)) (.slice (some ⟨wb.heap.size, 0, none⟩) 1 1) [(⟨(k : Int), nm⟩ : Fc)] from row_one _ 41 (⟨(k : Int), nm⟩ : Fc) _ rfl)
        have hmb : M + 1 ≤ (wb.alloc (.cells #[.int .i64 (k : Int), .slice none 0 0, .int .i64 0, .string ByteArray.empty, .string ⟨nm.toArray⟩, .bool false, .int .i64 0, .int .i64 0] 41)).heap.size := HS4.out.h.lt _ (.head _)
        clear gA hm HNm HS3 HP3
        go_wp2_with (at_builtin; refine wpList_append tW_ok rfl _ _ rfl rfl HS4.out.w rfl HR1.out (by simp only [List.length_singleton]; omega) hmb ?_)
        intro v2 wc hO7 hG4 _
        have hG4 : World.grownBy _ wc (Value.ownBlock vw) := hG4
        obtain ⟨va, vc, hv2, -, -⟩ := hO7.form
        obtain ⟨vl, hvl⟩ : ∃ vl, vl = (sel 0 L k ++ [(⟨(k : Int), nm⟩ : Fc)]).length := ⟨_, rfl⟩
        rw [← hvl] at hv2
        subst hv2
        obtain ⟨x0, x1⟩ := HS4.out.cellW hG4
        have HS5 := Lib.hid (HS4.out.ways hO7 hG4)
        have HP5 := Lib.hid ((HP4.out.apart HS4.out.w (by decide) hG4).stored (j := 2) (u := .slice va vl vc) (Nat.lt_succ_self M))
        clear HS4 HP4 HR1 hmb hO7 hG4 m0 d5 hvl
        go_wp2_with fail
        go_roundw
        case rel => exact ⟨k + 1, by omega, by go_num, Lib.hid ⟨_, _, _, by rw [HE1.out, HE0.out]; exact HS5.out, by rw [HEP.out]; exact HP5.out⟩⟩
        case measure => simp [RowKit.intOf]; omega
      · obtain ⟨q1, q2⟩ : Int.tmod (k : Int) 3 = 1 ∧ (k : Int) % 3 = 1 := mod3 k 1 hm
        have HE1 := Lib.hid (show sel 1 L (k + 1) = sel 1 L k ++ [(⟨(k : Int), nm⟩ : Fc)] by rw [sel, if_pos hm, HNm.out])
        have HE0 := Lib.hid (show sel 0 L (k + 1) = sel 0 L k by rw [sel, if_neg (by omega), List.append_nil])
        have HEP := Lib.hid (show selP L (k + 1) = selP L k by rw [selP, if_neg (by omega), List.append_nil])
        have m0 := HS3.out.h.fact (.head _) (i := 1) rfl
        simp only [] at m0
        have gA : Grows wb (wb.alloc (.cells #[.int .i64 (k : Int), .string ByteArray.empty, .string ⟨nm.toArray⟩, .int .i64 0, .int .i64 0] 38)) := (Below.refl _ _).alloc (Nat.le_refl _) _
        have HS4 := Lib.hid (HS3.out.later gA)
        have HP4 := Lib.hid (HP3.out.later gA)
        have HR1 := Lib.hid (show Row tF (wb.alloc (.cells #[.int .i64 (k : Int), .string ByteArray.empty, .string ⟨nm.toArray⟩, .int .i64 0, .int .i64 0] 38)) (.slice (some ⟨wb.heap.size, 0, none⟩) 1 1) [(⟨(k : Int), nm⟩ : Fc)] from row_one _ 38 (⟨(k : Int), nm⟩ : Fc) _ rfl)
        have hmb : M + 1 ≤ (wb.alloc (.cells #[.int .i64 (k : Int), .string ByteArray.empty, .string ⟨nm.toArray⟩, .int .i64 0, .int .i64 0] 38)).heap.size := HS4.out.h.lt _ (.head _)
        clear gA hm HNm HS3 HP3
        go_wp2_with (at_builtin; refine wpList_append tF_ok rfl _ _ rfl rfl HS4.out.f rfl HR1.out (by simp only [List.length_singleton]; omega) hmb ?_)
        intro v2 wc hO7 hG4 _
        have hG4 : World.grownBy _ wc (Value.ownBlock vf) := hG4
        obtain ⟨va, vc, hv2, -, -⟩ := hO7.form
        obtain ⟨vl, hvl⟩ : ∃ vl, vl = (sel 1 L k ++ [(⟨(k : Int), nm⟩ : Fc)]).length := ⟨_, rfl⟩
        rw [← hvl] at hv2
        subst hv2
        obtain ⟨x0, x1⟩ := HS4.out.cellF hG4
        have HS5 := Lib.hid (HS4.out.faces hO7 hG4)
        have HP5 := Lib.hid ((HP4.out.apart HS4.out.f (by decide) hG4).stored (j := 1) (u := .slice va vl vc) (Nat.lt_succ_self M))
        clear HS4 HP4 HR1 hmb hO7 hG4 m0 d5 hvl
        go_wp2_with fail
        go_roundw
        case rel => exact ⟨k + 1, by omega, by go_num, Lib.hid ⟨_, _, _, by rw [HE1.out, HE0.out]; exact HS5.out, by rw [HEP.out]; exact HP5.out⟩⟩
        case measure => simp [RowKit.intOf]; omega
      · obtain ⟨q1, q2⟩ : Int.tmod (k : Int) 3 = 2 ∧ (k : Int) % 3 = 2 := mod3 k 2 hm
        have HE1 := Lib.hid (show sel 1 L (k + 1) = sel 1 L k by rw [sel, if_neg (by omega), List.append_nil])
        have HE0 := Lib.hid (show sel 0 L (k + 1) = sel 0 L k by rw [sel, if_neg (by omega), List.append_nil])
        have HEP := Lib.hid (show selP L (k + 1) = selP L k ++ [(⟨(k : Int), 0, 0, [], nm, 0, 0⟩ : Pl)] by rw [selP, if_pos hm, HNm.out])
        have m0 := HS3.out.h.fact (.head _) (i := 3) rfl
        simp only [] at m0
        have gA : Grows wb (wb.alloc (.cells #[.int .i64 (k : Int), .int .i64 0, .int .i64 0, .string ByteArray.empty, .string ⟨nm.toArray⟩, .int .i64 0, .int .i64 0] 36)) := (Below.refl _ _).alloc (Nat.le_refl _) _
        have HS4 := Lib.hid (HS3.out.later gA)
        have HP4 := Lib.hid (HP3.out.later gA)
        have HR1 := Lib.hid (show Row tP (wb.alloc (.cells #[.int .i64 (k : Int), .int .i64 0, .int .i64 0, .string ByteArray.empty, .string ⟨nm.toArray⟩, .int .i64 0, .int .i64 0] 36)) (.slice (some ⟨wb.heap.size, 0, none⟩) 1 1) [(⟨(k : Int), 0, 0, [], nm, 0, 0⟩ : Pl)] from row_one _ 36 (⟨(k : Int), 0, 0, [], nm, 0, 0⟩ : Pl) _ rfl)
        have hmb : M + 1 ≤ (wb.alloc (.cells #[.int .i64 (k : Int), .int .i64 0, .int .i64 0, .string ByteArray.empty, .string ⟨nm.toArray⟩, .int .i64 0, .int .i64 0] 36)).heap.size := HS4.out.h.lt _ (.head _)
        clear gA hm HNm HS3 HP3
        go_wp2_with (at_builtin; refine wpList_append tP_ok rfl _ _ rfl rfl HP4.out rfl HR1.out (by simp only [List.length_singleton]; omega) hmb ?_)
        intro v2 wc hO7 hG4 _
        have hG4 : World.grownBy _ wc (Value.ownBlock vp) := hG4
        obtain ⟨va, vc, hv2, -, -⟩ := hO7.form
        obtain ⟨vl, hvl⟩ : ∃ vl, vl = (selP L k ++ [(⟨(k : Int), 0, 0, [], nm, 0, 0⟩ : Pl)]).length := ⟨_, rfl⟩
        rw [← hvl] at hv2
        subst hv2
        obtain ⟨x0, x1⟩ := HS4.out.cellP HP4.out hG4
        have HSP := HS4.out.places HP4.out hO7 hG4
        have HS5 := Lib.hid HSP.1
        have HP5 := Lib.hid HSP.2
        clear HSP
        clear HS4 HP4 HR1 hmb hO7 hG4 m0 d5 hvl
        go_wp2_with fail
        go_roundw
        case rel => exact ⟨k + 1, by omega, by go_num, Lib.hid ⟨_, _, _, by rw [HE1.out, HE0.out]; exact HS5.out, by rw [HEP.out]; exact HP5.out⟩⟩
        case measure => simp [RowKit.intOf]; omega
    · obtain rfl : k = n := by omega
      have hnl := namesL_length tc L k
      have hl0 := sel_length 0 L k
      have hl1 := sel_length 1 L k
      have hl2 := selP_length L k
      have HNd := Lib.hid (fun (s : List UInt8) (wx : World) (g : Grows wr wx) => named_want L s k ▸ named_any vf vw vp (sel 1 L k) (sel 0 L k) (selP L k) s wx ((HS.out.f.row).later g) ((HS.out.w.row).later g) ((HP.out.row).later g) (by omega))
      have HMc := Lib.hid HS.out.h
      have HGw := Lib.hid (HG.out.then HS.out.h.low)
      have HRL := Lib.hid (HR.out.later HS.out.h.low)
      have hform := HS.out.n.form
      obtain ⟨na, nc, hu7, hcap1, hcap2⟩ := hform
      have HRn := Lib.hid (HS.out.n.row)
      rw [hu7] at HRn
      obtain ⟨NS, hNS⟩ : ∃ NS, namesL tc L k = NS := ⟨_, rfl⟩
      rw [hNS] at HRn hu7 hnl
      clear hcap1 hcap2 HS HP hNS
      obtain ⟨nl, hnl2⟩ : ∃ nl, NS.length = nl := ⟨_, rfl⟩
      rw [hnl2] at HRn hu7 hnl
      have HNL := Lib.hid hnl2
      subst hu7
      unfold str at HNd
      have b1 : ¬ ((k : Int) < k) := by omega
      clear hnl2 hl0 hl1 hl2 HG HR
      go_wp2_with fail
      go_loopw [69] (fun x wx => ∃ j : Nat, j ≤ nl ∧ x = .int .i64 j ∧ Hid (Grows wr wx)) (fun x _ => nl - (RowKit.intOf x).toNat)
      case atStart => exact ⟨0, Nat.zero_le _, rfl, Lib.hid (Below.refl _ _)⟩
      case round =>
        obtain ⟨j, hj, rfl, HW⟩ := hrel
        by_cases hjl : j < nl
        · obtain ⟨s, hs⟩ : ∃ s, NS[j]? = some s := ⟨_, List.getElem?_eq_getElem (by rw [HNL.out]; exact hjl)⟩
          obtain ⟨bn, on, rfl, hq⟩ := HRn.out.spot tS_ok (by rw [HNL.out]; omega)
          have c0 := HW.out.cell (p := ⟨bn, on + j * 1 + 0, none⟩) (World.block_lt_of_cell? _ _ (hq j s 0 _ hs rfl)) |>.trans (hq j s 0 _ hs rfl)
          rw [Nat.mul_one, Nat.add_zero] at c0
          have b2 : (j : Int) < nl := by omega
          have b3 : (0 : Int) ≤ j := by omega
          unfold str at c0
          clear hq hs
          go_wp2_with fail
          generalize wr = wo at *
          go_loopw [12, 75] (fun u x wx => ∃ i : Nat, i ≤ k ∧ x = .int .i64 i ∧ Own tI wo.heap.size wx u (wantI L s i) ∧ Grows wo wx) (fun _ x _ => k - (RowKit.intOf x).toNat)
          case atStart => exact ⟨0, Nat.zero_le _, rfl, Own.nil _ _, Below.refl _ _⟩
          case round =>
            obtain ⟨i, hi, rfl, HO0, HG0⟩ := hrel
            have HO := Lib.hid HO0
            have HG := Lib.hid HG0
            clear HO0 HG0
            by_cases hil : i < k
            · obtain ⟨p, hp⟩ : ∃ p, L[i]? = some p := ⟨_, List.getElem?_eq_getElem (by rw [HN.out]; exact hil)⟩
              obtain ⟨b, o, rfl, -⟩ := HRL.out.spot tP_ok (by rw [HN.out]; omega)
              obtain ⟨e0, e1, e2, e3, e4, e5, e6⟩ := (HRL.out.later (HW.out.then HG.out)).place hp
              have hnm := nmAt_is hp
              have hwl := wantI_length L s i
              have b4 : (i : Int) < k := by omega
              have b5 : (0 : Int) ≤ i := by omega
              have HB : Has wr [(wr.heap.size, p.cells)] (wr.alloc (.cells p.cells.toArray 36)) := has1 _ _
              have HO2 := Lib.hid (HO.out.later HB.low)
              have HG2 := Lib.hid (HG.out.then HB.low)
              clear hp HO HG
              unfold Pl.cells at HB HO2 HG2
              unfold str at HB HO2 HG2 e3 e4
              go_upto_region 23 with fail
              generalize hw2 : wr.alloc _ = wa at *
              generalize hP : wr.heap.size = P at *
              clear e0 e1 e2 e3 e4 e5 e6
              have d4 := HB.fact (.head _) (i := 4) rfl
              simp only [] at d4
              clear HB hw2 hP
              generalize p.nm = nm at *
              by_cases hn1 : nm = s
              · have z1 : (nm == s) = true := by rw [hn1]; simp
                by_cases hs0 : s = []
                · have z2 : (s == []) = true := by rw [hs0]; rfl
                  have HE := Lib.hid (show wantI L s (i + 1) = wantI L s i by rw [wantI, if_neg (fun q => q.2 hs0), List.append_nil])
                  clear hn1 hs0 hnm
                  go_wp2_with fail
                  go_roundw
                  case rel => exact ⟨i + 1, by omega, by go_num, by rw [HE.out]; exact HO2.out, HG2.out⟩
                  case measure => simp [RowKit.intOf]; omega
                · have z2 : (s == []) = false := by simpa using hs0
                  have HE := Lib.hid (show wantI L s (i + 1) = wantI L s i ++ [(i : Int)] by rw [wantI, if_pos ⟨hnm.trans hn1, hs0⟩])
                  have HO3 := Lib.hid (HO2.out.later (w' := wa.alloc (.cells #[.int .i64 (i : Int)] 3)) ((Below.refl _ _).alloc (Nat.le_refl _) _))
                  have HR1 := Lib.hid (show Row tI (wa.alloc (.cells #[.int .i64 (i : Int)] 3)) (.slice (some ⟨wa.heap.size, 0, none⟩) 1 1) [(i : Int)] from row_one wa 3 _ _ rfl)
                  have GB := Lib.hid (show Grows wo (wa.alloc (.cells #[.int .i64 (i : Int)] 3)) from HG2.out.then ((Below.refl _ _).alloc (Nat.le_refl _) _))
                  clear hn1 hs0 hnm HO2 HG2
                  go_wp2_with (at_builtin; refine wpList_append tI_ok rfl _ _ rfl rfl HO3.out rfl HR1.out (by simp only [List.length_singleton]; omega) (by have := GB.out.size; exact this) ?_)
                  intro v' w' hO6 hG3 _
                  have hG4 := grow_append GB.out HO3.out (Nat.le_refl _) hG3
                  have HO6 := Lib.hid hO6
                  clear hO6 hG3
                  go_wp2_with fail
                  go_roundw
                  case rel => exact ⟨i + 1, by omega, by go_num, by rw [HE.out]; exact HO6.out, hG4⟩
                  case measure => simp [RowKit.intOf]; omega
              · have z1 : (nm == s) = false := by simpa using hn1
                have HE := Lib.hid (show wantI L s (i + 1) = wantI L s i by rw [wantI, if_neg (fun q => hn1 (hnm.symm.trans q.1)), List.append_nil])
                clear hn1 hnm
                go_wp2_with fail
                go_roundw
                case rel => exact ⟨i + 1, by omega, by go_num, by rw [HE.out]; exact HO2.out, HG2.out⟩
                case measure => simp [RowKit.intOf]; omega
            · obtain rfl : i = k := by omega
              have b4 : ¬ ((i : Int) < i) := by omega
              have HGt := Lib.hid (HW.out.then HG.out)
              have m0 := (HMc.out.later HGt.out).fact (.head _) (i := 0) rfl
              have m1 := (HMc.out.later HGt.out).fact (.head _) (i := 1) rfl
              have m2 := (HMc.out.later HGt.out).fact (.head _) (i := 2) rfl
              have m3 := (HMc.out.later HGt.out).fact (.head _) (i := 3) rfl
              simp only [] at m0 m1 m2 m3
              have HWn := Lib.hid HO.out.row
              have HC := Lib.hid (HNd.out s _ HGt.out)
              clear HO HG HW
              generalize wantI L s i = W at *
              go_wp2_with fail
              refine HC.out.mono ?_
              rintro e w8 ⟨⟨u, rfl, hO⟩, g8⟩
              have HU := Lib.hid hO.row
              have HW2 := Lib.hid (HWn.out.later g8)
              have HG8 := Lib.hid (HGt.out.then g8)
              clear hO g8 HC HWn HGt m0 m1 m2 m3
              go_wp2_with fail
              refine (same_is _ _ _ _ _ HU.out HW2.out true (by simp)).mono ?_
              rintro e w9 ⟨rfl, g9⟩
              have HG9 := Lib.hid (HG8.out.then g9)
              clear g9 HG8 HU HW2
              go_wp2_with fail
              go_roundw
              case rel => exact ⟨j + 1, by omega, by go_num, HG9⟩
              case measure => simp [RowKit.intOf]; omega
        · obtain rfl : j = nl := by omega
          have b2 : ¬ ((j : Int) < j) := by omega
          have HE := Lib.hid (HGw.out.then HW.out)
          clear HW
          go_wp2_with fail
          go_ret
          exact ⟨rfl, HE.out⟩
end Go.Proofs.Ytiliommilcifeaa
