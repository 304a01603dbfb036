/- The walk of GazetteFinds. -/
import Derived.Test.YtiliommilcifeaaA17
import Derived.Test.YtiliommilcifeaaA18
import Derived.Test.YtiliommilcifeaaMc
import Derived.Test.YtiliommilcifeaaLPr
namespace Go.Proofs.Ytiliommilcifeaa
open Go.RowKit Go.Lib Go.Sort
attribute [local go_sem] ba_extract

set_option maxRecDepth 100000 in
set_option maxHeartbeats 16000000 in
theorem finds_any (v : Value) (ps : List Pl) (t : List UInt8) (w : World) (hv : Row tP w v ps) (hg : ∀ p ∈ ps, p.good) (ht : (t.length : Int) ≤ 9223372036854775807) :
    Calls Try.prog 4 #[v, str t] w fun e w' => e = .returned (.bool true) ∧ Grows w w' := by
  have HVr := Lib.hid hv
  have hv0 := hv.form
  obtain ⟨a, n0, c, rfl, -, -, -, -⟩ := hv0
  clear hv
  have HFn := Lib.hid (cutPs_fine ps)
  have HLen := Lib.hid (cutPs_length ps)
  have HPl := Lib.hid (fun w' (g : Grows w w') => places_any _ ps w' (HVr.out.later g) hg)
  have HC := Lib.hid (fun w => cut_any t ht w)
  have hft := fits_cut t
  generalize cutPs ps = L at *
  generalize t.take 40 = tc at *
  clear hg ht
  unfold str at *
  go_enter Try.func4, Try.ntmps4
  go_wp2_with fail
  refine (sane_any w).mono ?_
  rintro e w1 ⟨rfl, g1⟩
  go_wp2_with fail
  refine (HPl.out _ g1).mono ?_
  rintro e w2 ⟨⟨u, rfl, hO⟩, g2⟩
  have HR := Lib.hid hO.row
  have HG := Lib.hid (g1.then g2)
  obtain ⟨ua, uc, rfl, -, -⟩ := hO.form
  obtain ⟨n, hn⟩ : ∃ n, L.length = n := ⟨_, rfl⟩
  rw [hn] at HLen HR ⊢
  have HN := Lib.hid hn
  have hn10 := HLen.out
  have S0 := Lib.hid (show St w2 w2.heap.size (.slice none 0 0) (.slice none 0 0) (.slice ua n uc) (.slice none 0 0) [] [] [] (w2.alloc (.cells #[.slice none 0 0, .slice none 0 0, .slice none 0 0, .slice ua n uc] 32)) from ⟨has1 _ _, Own.nil _ _, Own.nil _ _, Own.nil _ _⟩)
  clear hO g1 g2 HPl HVr hn
  go_upto_region 4 with fail
  generalize w2.alloc _ = w4 at *
  obtain ⟨M, hMM⟩ : ∃ M, w2.heap.size = M := ⟨_, rfl⟩
  rw [hMM] at S0 ⊢
  clear hMM
  go_wp2_with fail
  go_loopw [21] (fun x wx => ∃ k : Nat, k ≤ n ∧ x = .int .i64 k ∧ Hid (∃ vf vw fs ws, St w2 M vf vw (.slice ua n uc) (.slice none 0 0) fs ws [] wx ∧ fs.length ≤ k ∧ ws.length ≤ k)) (fun x _ => n - (RowKit.intOf x).toNat)
  case atStart => exact ⟨0, Nat.zero_le _, rfl, Lib.hid ⟨_, _, _, _, S0.out, Nat.le_refl _, Nat.le_refl _⟩⟩
  case round =>
    obtain ⟨k, hk, rfl, HI⟩ := hrel
    clear S0
    obtain ⟨vf, vw, fs, ws, hSt, hfl, hwl⟩ := HI.out
    have HS := Lib.hid hSt
    clear HI hSt
    by_cases hlt : k < n
    · obtain ⟨p, hp⟩ : ∃ p, L[k]? = some p := ⟨_, List.getElem?_eq_getElem (by rw [HN.out]; exact hlt)⟩
      obtain ⟨b, o, rfl, -⟩ := HR.out.spot tP_ok (by rw [HN.out]; omega)
      obtain ⟨c0, c1, c2, c3, c4, c5, c6⟩ := (HR.out.later HS.out.h.low).place hp
      have b1 : (k : Int) < n := by omega
      have b2 : (0 : Int) ≤ k := by omega
      obtain ⟨id, px, py, pc, nm, pw, pd⟩ := p
      have HB : Has wr [(wr.heap.size, [.int .i64 id, .int .i64 px, .int .i64 py, str pc, str nm, .int .i64 pw, .int .i64 pd])] (wr.alloc (.cells #[.int .i64 id, .int .i64 px, .int .i64 py, str pc, str nm, .int .i64 pw, .int .i64 pd] 36)) := has1 _ _
      have HPf := Lib.hid (show Value.ownBlock vf ≠ some wr.heap.size from fun e => by have := (HS.out.f.lt e).2; omega)
      have hPM : wr.heap.size ≠ M := by have := HS.out.h.lt _ (.head _); simp only at this; omega
      have HS := Lib.hid (HS.out.later HB.low)
      simp only [] at c0 c1 c2 c3 c4 c5 c6
      unfold str at c3 c4 HB
      unfold str at HS
      clear hp
      go_upto_region 7 with fail
      generalize hw1 : wr.alloc _ = wb at *
      generalize hP : wr.heap.size = P at *
      clear c0 c1 c2 c3 c5 c6 c4 hw1 hP
      have d0 := HB.fact (.head _) (i := 0) rfl
      have d4 := HB.fact (.head _) (i := 4) rfl
      have d5 := HB.fact (.head _) (i := 5) rfl
      simp only [] at d0 d4 d5
      obtain ⟨xr, hxr⟩ : ∃ xr, Go.bits .xor .i64 id 1 = xr := ⟨_, rfl⟩
      by_cases hm : k % 2 = 0
      · have q1 : Int.tmod (k : Int) 2 = 0 := by have : Int.tmod (k : Int) 2 = ((k % 2 : Nat) : Int) := rfl; rw [this, hm]; rfl
        have q2 : (k : Int) % 2 = 0 := by omega
        have m0 := HS.out.h.fact (.head _) (i := 1) rfl
        simp only [] at m0
        have gA : Grows wb (wb.alloc (.cells #[.int .i64 pw, .string ByteArray.empty, .string ⟨nm.toArray⟩, .int .i64 0, .int .i64 0] 38)) := (Below.refl _ _).alloc (Nat.le_refl _) _
        have HS4 := Lib.hid (HS.out.later gA)
        have HB4 := HB.later gA
        have HR1 := Lib.hid (show Row tF (wb.alloc (.cells #[.int .i64 pw, .string ByteArray.empty, .string ⟨nm.toArray⟩, .int .i64 0, .int .i64 0] 38)) (.slice (some ⟨wb.heap.size, 0, none⟩) 1 1) [(⟨pw, nm⟩ : Fc)] from row_one _ 38 (⟨pw, nm⟩ : Fc) _ rfl)
        have hmb : M + 1 ≤ (wb.alloc (.cells #[.int .i64 pw, .string ByteArray.empty, .string ⟨nm.toArray⟩, .int .i64 0, .int .i64 0] 38)).heap.size := HS4.out.h.lt _ (.head _)
        clear gA
        go_wp2_with (at_builtin; refine wpList_append tF_ok rfl _ _ rfl rfl HS4.out.f rfl HR1.out (by simp only [List.length_singleton]; omega) hmb ?_)
        intro v2 wc hO7 hG4 _
        have hG4 : World.grownBy _ wc (Value.ownBlock vf) := hG4
        obtain ⟨va, vc, hv2, -, -⟩ := hO7.form
        obtain ⟨x0, x1⟩ := HS4.out.cellF hG4
        have hPd : some P ≠ Value.ownBlock vf := fun e => HPf.out e.symm
        have e0 := World.grownBy.cell hG4 (HB4.fact (.head _) (i := 0) rfl) hPd
        have e4 := World.grownBy.cell hG4 (HB4.fact (.head _) (i := 4) rfl) hPd
        have HS5 := Lib.hid (HS4.out.faces hO7 hG4)
        have hfl2 : (fs ++ [(⟨pw, nm⟩ : Fc)]).length ≤ k + 1 := by simp only [List.length_append, List.length_singleton]; omega
        rw [show (fs ++ [(⟨pw, nm⟩ : Fc)]).length = fs.length + 1 by simp] at hv2
        subst hv2
        clear HS HS4 HR1 hmb hO7 hG4 m0 hPd HB4 HB d0 d4 d5 HPf
        go_upto_region 9 with fail
        generalize hwd : wc.setCell _ _ = wd at *
        have d0 : wd.cell? ⟨P, 0, none⟩ = some (.int .i64 id) := by rw [← hwd, World.cell?_setCell_other (h := by intro q; injection q with q1 _; exact hPM q1.symm)]; exact e0
        have d4 : wd.cell? ⟨P, 4, none⟩ = some (.string ⟨nm.toArray⟩) := by rw [← hwd, World.cell?_setCell_other (h := by intro q; injection q with q1 _; exact hPM q1.symm)]; exact e4
        clear e0 e4 hwd x0 x1
        have m0 := HS5.out.h.fact (.head _) (i := 2) rfl
        simp only [] at m0
        have gA : Grows wd (wd.alloc (.cells #[.int .i64 xr, .slice none 0 0, .int .i64 0, .string ByteArray.empty, .string ⟨nm.toArray⟩, .bool false, .int .i64 0, .int .i64 0] 41)) := (Below.refl _ _).alloc (Nat.le_refl _) _
        have HS4 := Lib.hid (HS5.out.later gA)
        have HR1 := Lib.hid (show Row tW (wd.alloc (.cells #[.int .i64 xr, .slice none 0 0, .int .i64 0, .string ByteArray.empty, .string ⟨nm.toArray⟩, .bool false, .int .i64 0, .int .i64 0] 41)) (.slice (some ⟨wd.heap.size, 0, none⟩) 1 1) [(⟨xr, nm⟩ : Fc)] from row_one _ 41 (⟨xr, nm⟩ : Fc) _ rfl)
        have hmb : M + 1 ≤ (wd.alloc (.cells #[.int .i64 xr, .slice none 0 0, .int .i64 0, .string ByteArray.empty, .string ⟨nm.toArray⟩, .bool false, .int .i64 0, .int .i64 0] 41)).heap.size := HS4.out.h.lt _ (.head _)
        clear gA
        go_wp2_with (at_builtin; refine wpList_append tW_ok rfl _ _ rfl rfl HS4.out.w rfl HR1.out (by simp only [List.length_singleton]; omega) hmb ?_)
        intro v3 we hO8 hG5 _
        have hG5 : World.grownBy _ we (Value.ownBlock vw) := hG5
        obtain ⟨wa2, wc2, hv3, -, -⟩ := hO8.form
        obtain ⟨y0, y1⟩ := HS4.out.cellW hG5
        have HS6 := Lib.hid (HS4.out.ways hO8 hG5)
        have hwl2 : (ws ++ [(⟨xr, nm⟩ : Fc)]).length ≤ k + 1 := by simp only [List.length_append, List.length_singleton]; omega
        rw [show (ws ++ [(⟨xr, nm⟩ : Fc)]).length = ws.length + 1 by simp] at hv3
        subst hv3
        clear HS5 HS4 HR1 hmb hO8 hG5 m0
        go_wp2_with fail
        go_roundw
        case rel => exact ⟨k + 1, by omega, by go_num, Lib.hid ⟨_, _, _, _, HS6.out, hfl2, hwl2⟩⟩
        case measure => simp [RowKit.intOf]; omega
      · have q1 : Int.tmod (k : Int) 2 = 1 := by have : Int.tmod (k : Int) 2 = ((k % 2 : Nat) : Int) := rfl; rw [this, show k % 2 = 1 by omega]; rfl
        have q2 : (k : Int) % 2 = 1 := by omega
        have HS5 := HS
        clear HS HB HPf
        have m0 := HS5.out.h.fact (.head _) (i := 2) rfl
        simp only [] at m0
        have gA : Grows wb (wb.alloc (.cells #[.int .i64 xr, .slice none 0 0, .int .i64 0, .string ByteArray.empty, .string ⟨nm.toArray⟩, .bool false, .int .i64 0, .int .i64 0] 41)) := (Below.refl _ _).alloc (Nat.le_refl _) _
        have HS4 := Lib.hid (HS5.out.later gA)
        have HR1 := Lib.hid (show Row tW (wb.alloc (.cells #[.int .i64 xr, .slice none 0 0, .int .i64 0, .string ByteArray.empty, .string ⟨nm.toArray⟩, .bool false, .int .i64 0, .int .i64 0] 41)) (.slice (some ⟨wb.heap.size, 0, none⟩) 1 1) [(⟨xr, nm⟩ : Fc)] from row_one _ 41 (⟨xr, nm⟩ : Fc) _ rfl)
        have hmb : M + 1 ≤ (wb.alloc (.cells #[.int .i64 xr, .slice none 0 0, .int .i64 0, .string ByteArray.empty, .string ⟨nm.toArray⟩, .bool false, .int .i64 0, .int .i64 0] 41)).heap.size := HS4.out.h.lt _ (.head _)
        clear gA
        go_wp2_with (at_builtin; refine wpList_append tW_ok rfl _ _ rfl rfl HS4.out.w rfl HR1.out (by simp only [List.length_singleton]; omega) hmb ?_)
        intro v3 we hO8 hG5 _
        have hG5 : World.grownBy _ we (Value.ownBlock vw) := hG5
        obtain ⟨wa2, wc2, hv3, -, -⟩ := hO8.form
        obtain ⟨y0, y1⟩ := HS4.out.cellW hG5
        have HS6 := Lib.hid (HS4.out.ways hO8 hG5)
        have hwl2 : (ws ++ [(⟨xr, nm⟩ : Fc)]).length ≤ k + 1 := by simp only [List.length_append, List.length_singleton]; omega
        rw [show (ws ++ [(⟨xr, nm⟩ : Fc)]).length = ws.length + 1 by simp] at hv3
        subst hv3
        clear HS5 HS4 HR1 hmb hO8 hG5 m0
        go_wp2_with fail
        go_roundw
        case rel => exact ⟨k + 1, by omega, by go_num, Lib.hid ⟨_, _, _, _, HS6.out, by omega, hwl2⟩⟩
        case measure => simp [RowKit.intOf]; omega
    · obtain rfl : k = n := by omega
      have b1 : ¬ ((k : Int) < k) := by omega
      have HMc := Lib.hid HS.out.h
      have HRf := Lib.hid HS.out.f.row
      have HRw := Lib.hid HS.out.w.row
      have HGA := Lib.hid (HG.out.then HS.out.h.low)
      have HRL := Lib.hid (HR.out.later HS.out.h.low)
      clear HS HG HR
      generalize wr = wA at *
      have hS : Own tS wA.heap.size (wA.alloc (.cells #[.string ⟨tc.toArray⟩, .string ⟨(#[] : Array UInt8)⟩] 9)) (.slice (some ⟨wA.heap.size, 0, none⟩) 2 2) [tc, []] := World.ownsRow_lit wA #[.string ⟨tc.toArray⟩, .string ⟨(#[] : Array UInt8)⟩] 2 (base := wA.heap.size) (e := 9) (size := 1) (Nat.le_refl _) (by decide) rfl
      have HS0 := Lib.hid hS
      have HG0 := Lib.hid (show Grows wA (wA.alloc (.cells #[.string ⟨tc.toArray⟩, .string ⟨(#[] : Array UInt8)⟩] 9)) from (Below.refl _ _).alloc (Nat.le_refl _) _)
      clear hS
      go_wp2_with (go_at_call 10; refine (HC.out _).mono ?_; rintro e w3 ⟨rfl, rfl⟩)
      go_loopw [9, 56] (fun u x wx => ∃ k2 : Nat, k2 ≤ k ∧ x = .int .i64 k2 ∧ ∃ ns : List (List UInt8), Own tS wA.heap.size wx u ns ∧ Grows wA wx ∧ ns.length ≤ 2 + 2 * k2 ∧ Hid (∀ s ∈ ns, Fits s)) (fun _ x _ => k - (RowKit.intOf x).toNat)
      case atStart => exact ⟨0, Nat.zero_le _, rfl, _, HS0.out, HG0.out, Nat.le_refl _, Lib.hid (fun s hs => by
        rcases List.mem_cons.1 hs with rfl | hs
        · exact hft
        · obtain rfl := List.mem_singleton.1 hs
          unfold Fits; decide)⟩
      case round =>
        obtain ⟨k2, hk2, rfl, ns, hO, hGw, hnl, HFs⟩ := hrel
        have HO := Lib.hid hO
        have HGw := Lib.hid hGw
        clear hO hGw HS0 HG0
        by_cases hlt2 : k2 < k
        · obtain ⟨p, hp⟩ : ∃ p, L[k2]? = some p := ⟨_, List.getElem?_eq_getElem (by rw [HN.out]; exact hlt2)⟩
          obtain ⟨b, o, rfl, -⟩ := HRL.out.spot tP_ok (by rw [HN.out]; omega)
          obtain ⟨c0, c1, c2, c3, c4, c5, c6⟩ := (HRL.out.later HGw.out).place hp
          have hpf := HFn.out.2 p (List.mem_of_getElem? hp)
          have b1 : (k2 : Int) < k := by omega
          have b2 : (0 : Int) ≤ k2 := by omega
          obtain ⟨id, px, py, pc, nm, pw, pd⟩ := p
          have HB : Has wr [(wr.heap.size, [.int .i64 id, .int .i64 px, .int .i64 py, str pc, str nm, .int .i64 pw, .int .i64 pd])] (wr.alloc (.cells #[.int .i64 id, .int .i64 px, .int .i64 py, str pc, str nm, .int .i64 pw, .int .i64 pd] 36)) := has1 _ _
          have HneP := Lib.hid (show Value.ownBlock u9 ≠ some wr.heap.size from fun e => by have := (HO.out.lt e).2; omega)
          have HO := Lib.hid (HO.out.later HB.low)
          have HGw := Lib.hid (HGw.out.then HB.low)
          simp only [] at c0 c1 c2 c3 c4 c5 c6 hpf
          unfold str at c3 c4 HB HO HGw
          obtain ⟨q, hq⟩ : ∃ q, nm.length / 2 = q := ⟨_, rfl⟩
          have e4 : Int.tdiv (nm.length : Int) 2 = (q : Int) := by rw [← hq]; rfl
          have e5 : (nm.length : Int) / 2 = (q : Int) := by omega
          have b6 : (q : Int) ≤ nm.length := by omega
          have b7 : (0 : Int) ≤ q := by omega
          have b8 : q ≤ nm.length := by omega
          have lw : IntKind.i64.wrap (q : Int) = (q : Int) := by rw [IntKind.wrap_i64]; unfold Fits at hpf; omega
          have hnmL := hpf
          unfold Fits at hnmL
          have b9 : (nm.length : Int) ≤ 1000000 := by omega
          have HFs2 := Lib.hid (show ∀ s ∈ ns ++ [nm, nm.take q], Fits s from fun s hs => by
            rcases List.mem_append.1 hs with hs | hs
            · exact HFs.out s hs
            · rcases List.mem_cons.1 hs with rfl | hs
              · exact hpf
              · obtain rfl := List.mem_singleton.1 hs
                exact fits_take hpf q)
          clear hp hq
          go_upto_region 15 with fail
          generalize hw1 : wr.alloc _ = wb at *
          generalize hP : wr.heap.size = P at *
          clear c0 c1 c2 c3 c5 c6 c4 hw1 hP
          have d4 := HB.fact (.head _) (i := 4) rfl
          simp only [] at d4
          clear HB
          refine wp_region_held_drew (S := (fun wx => wx.cell? ⟨P, 4, none⟩ = some (.string ⟨nm.toArray⟩))) (by kernel_rfl) (d4) (fun hHeld => ?_)
          refine wpAnyT_begin [0, 1, 2, 3, 4, 5, 6, 7, 8, 9] (by kernel_rfl) (by kernel_rfl) ?_
          refine wpAnyT_take (oi := ⟨some 60, Op.move (Operand.tmp 9), 42, _, _, none⟩) (v := u9) rfl (fun _ _ _ h => h) (by rfl) (by assumption) (fun wS hSw => ?_) ?_
          · (try dsimp only at hSw); go_simp
          simp only [Act.put, List.setIfInBounds_toArray, List.set_cons_zero, List.set_cons_succ]
          refine wpAnyT_take (oi := ⟨some 61, Op.fieldAddr 36 (Operand.tmp 11) 3, 0, _, _, none⟩) (v := .pointer (some ⟨P, 4, none⟩)) rfl (fun _ _ _ h => h) (by rfl) (by assumption) (fun wS hSw => ?_) ?_
          · (try dsimp only at hSw); go_simp
          simp only [Act.put, List.setIfInBounds_toArray, List.set_cons_zero, List.set_cons_succ]
          refine wpAnyT_take (oi := ⟨some 62, Op.load 9 (Operand.tmp 61), 9, _, _, none⟩) (v := .string ⟨nm.toArray⟩) rfl (fun _ _ _ h => h) (by rfl) (by assumption) (fun wS hSw => ?_) ?_
          · (try dsimp only at hSw); go_simp
          simp only [Act.put, List.setIfInBounds_toArray, List.set_cons_zero, List.set_cons_succ]
          refine wpAnyT_take (oi := ⟨some 63, Op.fieldAddr 36 (Operand.tmp 11) 3, 0, _, _, none⟩) (v := .pointer (some ⟨P, 4, none⟩)) rfl (fun _ _ _ h => h) (by rfl) (by assumption) (fun wS hSw => ?_) ?_
          · (try dsimp only at hSw); go_simp
          simp only [Act.put, List.setIfInBounds_toArray, List.set_cons_zero, List.set_cons_succ]
          refine wpAnyT_take (oi := ⟨some 64, Op.load 9 (Operand.tmp 63), 9, _, _, none⟩) (v := .string ⟨nm.toArray⟩) rfl (fun _ _ _ h => h) (by rfl) (by assumption) (fun wS hSw => ?_) ?_
          · (try dsimp only at hSw); go_simp
          simp only [Act.put, List.setIfInBounds_toArray, List.set_cons_zero, List.set_cons_succ]
          refine wpAnyT_take (oi := ⟨some 65, Op.fieldAddr 36 (Operand.tmp 11) 3, 0, _, _, none⟩) (v := .pointer (some ⟨P, 4, none⟩)) rfl (fun _ _ _ h => h) (by rfl) (by assumption) (fun wS hSw => ?_) ?_
          · (try dsimp only at hSw); go_simp
          simp only [Act.put, List.setIfInBounds_toArray, List.set_cons_zero, List.set_cons_succ]
          refine wpAnyT_take (oi := ⟨some 66, Op.load 9 (Operand.tmp 65), 9, _, _, none⟩) (v := .string ⟨nm.toArray⟩) rfl (fun _ _ _ h => h) (by rfl) (by assumption) (fun wS hSw => ?_) ?_
          · (try dsimp only at hSw); go_simp
          simp only [Act.put, List.setIfInBounds_toArray, List.set_cons_zero, List.set_cons_succ]
          refine wpAnyT_take (oi := ⟨some 67, Op.call { callee := Callee.builtin Builtin.len, args := #[Operand.tmp 66], argTypes := #[9] }, 3, _, _, none⟩) (v := .int .i64 nm.length) rfl (fun _ _ _ h => h) (by rfl) (by assumption) (fun wS hSw => ?_) ?_
          · (try dsimp only at hSw); go_simp
          simp only [Act.put, List.setIfInBounds_toArray, List.set_cons_zero, List.set_cons_succ]
          refine wpAnyT_take (oi := ⟨some 68, Op.binOp BinOp.quo 3 (Operand.tmp 67) (Operand.const (Value.int IntKind.i64 2)) 3, 3, _, _, none⟩) (v := .int .i64 q) rfl (fun _ _ _ h => h) (by rfl) (by assumption) (fun wS hSw => ?_) ?_
          · (try dsimp only at hSw); go_simp
          simp only [Act.put, List.setIfInBounds_toArray, List.set_cons_zero, List.set_cons_succ]
          refine wpAnyT_take (oi := ⟨some 69, Op.slice 9 (Operand.tmp 64) none (some (Operand.tmp 68)) none, 9, _, _, none⟩) (v := .string ⟨(nm.take q).toArray⟩) rfl (fun _ _ _ h => h) (by rfl) (by assumption) (fun wS hSw => ?_) ?_
          · (try dsimp only at hSw); go_simp; try (intro h; exfalso; omega)
          simp only [Act.put, List.setIfInBounds_toArray, List.set_cons_zero, List.set_cons_succ]
          refine wpAnyT_end ?_
          refine wpAnyH_listed #[true, true, true, true, true, true, true, true, true, true, false, false, false] (by kernel_rfl) ?_
          have G0 : Grows wb wb.drew := (Below.refl _ wb).drew
          generalize wb.drew = w0 at *
          refine wpAnyH_ready (rs := [10]) (by kernel_rfl) (by simp) ?_
          refine AllReadyH.cons (o := ⟨some 70, Op.buildSlice 42 2 #[(0, Operand.tmp 62), (1, Operand.tmp 69)], 42, _, _, none⟩) rfl (fun K hK => ?_) AllReadyH.nil
          go_simp
          have G1 := G0.then ((Below.refl _ w0).alloc (Nat.le_refl _) (.cells #[.string ⟨nm.toArray⟩, .string ⟨(nm.take q).toArray⟩] 9))
          have HO3 := Lib.hid (HO.out.later G1)
          have dA := (G1.cell (p := ⟨P, 4, none⟩) (World.block_lt_of_cell? _ _ d4)).trans d4
          have HR1 := Lib.hid (show Row tS (w0.alloc (.cells #[.string ⟨nm.toArray⟩, .string ⟨(nm.take q).toArray⟩] 9)) (.slice (some ⟨w0.heap.size, 0, none⟩) 2 2) [nm, nm.take q] from row_cells (T := tS) (xs := [nm, nm.take q]) (c := 2) (Cells.made w0 [str nm, str (nm.take q)] 9) (by simp) (by decide))
          have HGw1 := Lib.hid (HGw.out.then G1)
          generalize w0.alloc (.cells #[.string ⟨nm.toArray⟩, .string ⟨(nm.take q).toArray⟩] 9) = w1x at *
          generalize w0.heap.size = P1 at *
          clear hHeld
          refine hK.out _ _ (dA) (fun hHeld => ?_)
          clear hK K
          try simp only [List.setIfInBounds_toArray, List.set_cons_zero, List.set_cons_succ]
          refine wpAnyH_listed #[true, true, true, true, true, true, true, true, true, true, true, false, false] (by kernel_rfl) ?_
          refine wpAnyH_ready (rs := [11]) (by kernel_rfl) (by simp) ?_
          refine AllReadyH.cons (o := ⟨some 71, Op.call { callee := Callee.builtin Builtin.append, args := #[Operand.tmp 60, Operand.tmp 70], argTypes := #[42, 42] }, 42, _, _, none⟩) rfl (fun K hK => ?_) AllReadyH.nil
          refine step_append tS_ok rfl _ _ rfl rfl HO3.out rfl HR1.out (by simp only [List.length_cons, List.length_nil]; omega) HGw1.out.size ?_
          intro v1 W2 OB hGB _
          have hG4 := grow_append HGw1.out HO3.out (Nat.le_refl _) hGB
          have dB := World.grownBy.cell hGB dA (fun e => HneP.out e.symm)
          have OBH := Lib.hid OB
          clear OB hGB HO3 HR1 HGw1
          clear hHeld
          refine hK.out _ _ (dB) (fun hHeld => ?_)
          clear hK K
          try simp only [List.setIfInBounds_toArray, List.set_cons_zero, List.set_cons_succ]
          refine wpAnyH_listed #[true, true, true, true, true, true, true, true, true, true, true, true, false] (by kernel_rfl) ?_
          refine wpAnyH_ready (rs := [12]) (by kernel_rfl) (by simp) ?_
          refine AllReadyH.cons (o := ⟨some 9, Op.assign (Operand.tmp 71), 42, _, _, none⟩) rfl (fun K hK => ?_) AllReadyH.nil
          go_wp2_with fail
          clear hHeld
          refine hK.out _ _ (dB) (fun hHeld => ?_)
          clear hK K
          try simp only [List.setIfInBounds_toArray, List.set_cons_zero, List.set_cons_succ]
          refine wpAnyH_listed #[true, true, true, true, true, true, true, true, true, true, true, true, true] (by kernel_rfl) ?_
          refine wpAnyH_done (by kernel_rfl) ?_ _
          clear hHeld dA dB d4
          go_wp2_with fail
          go_roundw
          case rel => exact ⟨k2 + 1, by omega, by go_num, _, OBH.out, hG4, by simp only [List.length_append, List.length_cons, List.length_nil]; omega, HFs2⟩
          case measure => simp [RowKit.intOf]; omega
        · obtain rfl : k2 = k := by omega
          have b1 : ¬ ((k2 : Int) < k2) := by omega
          have HRn := Lib.hid HO.out.row
          obtain ⟨na, nc, hu9, -, -⟩ := HO.out.form
          obtain ⟨nl, hnl2⟩ : ∃ nl, ns.length = nl := ⟨_, rfl⟩
          rw [hnl2] at hu9
          have HNL := Lib.hid hnl2
          subst hu9
          rw [hnl2] at hnl
          have HMc := Lib.hid (HMc.out.later HGw.out)
          have HGB := Lib.hid (HGA.out.then HGw.out)
          have HRf := Lib.hid (HRf.out.later HGw.out)
          have HRw := Lib.hid (HRw.out.later HGw.out)
          have HRL := Lib.hid (HRL.out.later HGw.out)
          clear HO HGw hnl2 HGA
          generalize wr = wB at *
          have HF1 := Lib.hid (fun (s : List UInt8) (hs : Fits s) wx (g : Grows wB wx) => find_any _ L s wx (HRL.out.later g) HFn.out hs)
          have HF2 := Lib.hid (fun (s : List UInt8) (hs : Fits s) wx (g : Grows wB wx) => rfind_any _ L s wx (HRL.out.later g) HFn.out hs)
          have HN1 := Lib.hid (fun (s : List UInt8) wx (g : Grows wB wx) => named_any _ _ _ fs ws L s wx (HRf.out.later g) (HRw.out.later g) (HRL.out.later g) (by rw [HN.out]; omega))
          have HN2 := Lib.hid (fun (s : List UInt8) wx (g : Grows wB wx) => rnamed_any _ _ _ fs ws L s wx (HRf.out.later g) (HRw.out.later g) (HRL.out.later g) (by rw [HN.out]; omega))
          unfold str at HF1 HF2 HN1 HN2
          go_wp2_with fail
          go_loopw [75] (fun x wx => ∃ j : Nat, j ≤ nl ∧ x = .int .i64 j ∧ Hid (Grows wB wx)) (fun x _ => nl - (RowKit.intOf x).toNat)
          case atStart => exact ⟨0, Nat.zero_le _, rfl, Lib.hid (Below.refl _ _)⟩
          case round =>
            obtain ⟨j, hj, rfl, HW⟩ := hrel
            by_cases hjl : j < nl
            · obtain ⟨s, hs⟩ : ∃ s, ns[j]? = some s := ⟨_, List.getElem?_eq_getElem (by rw [HNL.out]; exact hjl)⟩
              obtain ⟨bn, on, rfl, hqn⟩ := HRn.out.spot tS_ok (by rw [HNL.out]; omega)
              have c0 := HW.out.cell (p := ⟨bn, on + j * 1 + 0, none⟩) (World.block_lt_of_cell? _ _ (hqn j s 0 _ hs rfl)) |>.trans (hqn j s 0 _ hs rfl)
              rw [Nat.mul_one, Nat.add_zero] at c0
              have hsf := HFs.out s (List.mem_of_getElem? hs)
              have b2 : (j : Int) < nl := by omega
              have b3 : (0 : Int) ≤ j := by omega
              unfold str at c0
              generalize wr = wb at *
              have HF1 := Lib.hid (fun wx (g : Grows wb wx) => HF1.out s hsf wx (Grows.then HW.out g))
              have HF2 := Lib.hid (fun wx (g : Grows wb wx) => HF2.out s hsf wx (Grows.then HW.out g))
              have HN1 := Lib.hid (fun wx (g : Grows wb wx) => HN1.out s wx (Grows.then HW.out g))
              have HN2 := Lib.hid (fun wx (g : Grows wb wx) => HN2.out s wx (Grows.then HW.out g))
              have HMx := Lib.hid (fun wx (g : Grows wb wx) => show (wx.cell? ⟨M, 0, none⟩ = some (.slice none 0 0) ∧ wx.cell? ⟨M, 1, none⟩ = some vf ∧ wx.cell? ⟨M, 2, none⟩ = some vw ∧ wx.cell? ⟨M, 3, none⟩ = some (.slice ua k2 uc)) ∧ Grows wb wx from by
                have h := HMc.out.later (Grows.then HW.out g)
                exact ⟨⟨h.fact (.head _) (i := 0) rfl, h.fact (.head _) (i := 1) rfl, h.fact (.head _) (i := 2) rfl, h.fact (.head _) (i := 3) rfl⟩, g⟩)
              clear hqn hs
              go_upto_region 20 with fail
              clear c0
              refine wp_region_held_drew (S := (fun wx => (wx.cell? ⟨M, 0, none⟩ = some (.slice none 0 0) ∧ wx.cell? ⟨M, 1, none⟩ = some vf ∧ wx.cell? ⟨M, 2, none⟩ = some vw ∧ wx.cell? ⟨M, 3, none⟩ = some (.slice ua k2 uc)) ∧ Grows wb wx)) (by kernel_rfl) (HMx.out _ (Below.refl _ wb).drew) (fun hHeld => ?_)
              have G0 : Grows wb wb.drew := (Below.refl _ wb).drew
              generalize wb.drew = w0 at *
              refine wpAnyT_begin [0, 1, 3, 4] (by kernel_rfl) (by kernel_rfl) ?_
              refine wpAnyT_take (oi := ⟨some 79, Op.move (Operand.tmp 0), 26, _, _, none⟩) (v := .slice ua k2 uc) rfl (fun _ _ _ h => h) (by rfl) (by assumption) (fun wS hSw => ?_) ?_
              · (try dsimp only at hSw); go_simp
              simp only [Act.put, List.setIfInBounds_toArray, List.set_cons_zero, List.set_cons_succ]
              refine wpAnyT_take (oi := ⟨some 80, Op.move (Operand.tmp 13), 9, _, _, none⟩) (v := .string ⟨s.toArray⟩) rfl (fun _ _ _ h => h) (by rfl) (by assumption) (fun wS hSw => ?_) ?_
              · (try dsimp only at hSw); go_simp
              simp only [Act.put, List.setIfInBounds_toArray, List.set_cons_zero, List.set_cons_succ]
              refine wpAnyT_take (oi := ⟨some 82, Op.move (Operand.tmp 0), 26, _, _, none⟩) (v := .slice ua k2 uc) rfl (fun _ _ _ h => h) (by rfl) (by assumption) (fun wS hSw => ?_) ?_
              · (try dsimp only at hSw); go_simp
              simp only [Act.put, List.setIfInBounds_toArray, List.set_cons_zero, List.set_cons_succ]
              refine wpAnyT_take (oi := ⟨some 83, Op.move (Operand.tmp 13), 9, _, _, none⟩) (v := .string ⟨s.toArray⟩) rfl (fun _ _ _ h => h) (by rfl) (by assumption) (fun wS hSw => ?_) ?_
              · (try dsimp only at hSw); go_simp
              simp only [Act.put, List.setIfInBounds_toArray, List.set_cons_zero, List.set_cons_succ]
              refine wpAnyT_end ?_
              refine wpAnyH_listed #[true, true, false, true, true, false, false, false, false, false, false, false, false, false, false, false, false, false] (by kernel_rfl) ?_
              refine wpAnyH_ready (rs := [2]) (by kernel_rfl) (by simp) ?_
              refine AllReadyH.cons (o := ⟨some 81, Op.call { callee := Callee.value (Operand.func 21), args := #[Operand.tmp 79, Operand.tmp 80], argTypes := #[26, 9] }, 44, _, _, none⟩) rfl (fun K hK => ?_) AllReadyH.nil
              go_simp
              go_at_call 21
              refine (HF1.out _ G0).mono ?_
              rintro e W1 ⟨⟨x1, rfl, hO1⟩, g1⟩
              have G1 := G0.then g1
              have R1 := Lib.hid hO1.row
              clear hO1 g1 G0
              go_wp2_with fail
              clear hHeld
              refine hK.out _ _ (HMx.out _ G1) (fun hHeld => ?_)
              clear hK K
              try simp only [List.setIfInBounds_toArray, List.set_cons_zero, List.set_cons_succ]
              refine wpAnyH_listed #[true, true, true, true, true, false, false, false, false, false, false, false, false, false, false, false, false, false] (by kernel_rfl) ?_
              refine wpAnyH_ready (rs := [5]) (by kernel_rfl) (by simp) ?_
              refine AllReadyH.cons (o := ⟨some 84, Op.call { callee := Callee.value (Operand.func 22), args := #[Operand.tmp 82, Operand.tmp 83], argTypes := #[26, 9] }, 44, _, _, none⟩) rfl (fun K hK => ?_) AllReadyH.nil
              go_simp
              go_at_call 22
              refine (HF2.out _ G1).mono ?_
              rintro e W2 ⟨⟨x2, rfl, hO2⟩, g2⟩
              have G2 := G1.then g2
              have R2 := Lib.hid hO2.row
              have R1 := Lib.hid (R1.out.later g2)
              clear hO2 g2 G1
              go_wp2_with fail
              clear hHeld
              refine hK.out _ _ (HMx.out _ G2) (fun hHeld => ?_)
              clear hK K
              try simp only [List.setIfInBounds_toArray, List.set_cons_zero, List.set_cons_succ]
              refine wpAnyH_listed #[true, true, true, true, true, true, false, false, false, false, false, false, false, false, false, false, false, false] (by kernel_rfl) ?_
              refine wpAnyH_ready (rs := [6]) (by kernel_rfl) (by simp) ?_
              refine AllReadyH.cons (o := ⟨some 85, Op.call { callee := Callee.value (Operand.func 20), args := #[Operand.tmp 81, Operand.tmp 84], argTypes := #[44, 44] }, 4, _, _, none⟩) rfl (fun K hK => ?_) AllReadyH.nil
              go_simp
              go_at_call 20
              refine (same_is _ _ _ _ _ R1.out R2.out true (by simp)).mono ?_
              rintro e W3 ⟨rfl, g3⟩
              have G3 := G2.then g3
              clear g3 G2 R1 R2
              go_wp2_with fail
              clear hHeld
              refine hK.out _ _ (HMx.out _ G3) (fun hHeld => ?_)
              clear hK K
              try simp only [List.setIfInBounds_toArray, List.set_cons_zero, List.set_cons_succ]
              refine wpAnyH_listed #[true, true, true, true, true, true, true, false, false, false, false, false, false, false, false, false, false, false] (by kernel_rfl) ?_
              refine wpAnyT_begin [7] (by kernel_rfl) (by kernel_rfl) ?_
              refine wpAnyT_take (oi := ⟨some 86, Op.unOp UnOp.not 4 (Operand.tmp 85), 4, _, _, none⟩) (v := .bool false) rfl (fun _ _ _ h => h) (by rfl) (by assumption) (fun wS hSw => ?_) ?_
              · (try dsimp only at hSw); go_simp
              simp only [Act.put, List.setIfInBounds_toArray, List.set_cons_zero, List.set_cons_succ]
              refine wpAnyT_end ?_
              refine wpAnyH_listed #[true, true, true, true, true, true, true, true, false, false, false, false, false, false, false, false, false, false] (by kernel_rfl) ?_
              refine wpAnyT_begin [8] (by kernel_rfl) (by kernel_rfl) ?_
              refine wpAnyT_take (oi := ⟨some 87, Op.move (Operand.tmp 86), 4, _, _, none⟩) (v := .bool false) rfl (fun _ _ _ h => h) (by rfl) (by assumption) (fun wS hSw => ?_) ?_
              · (try dsimp only at hSw); go_simp
              simp only [Act.put, List.setIfInBounds_toArray, List.set_cons_zero, List.set_cons_succ]
              refine wpAnyT_end ?_
              refine wpAnyH_listed #[true, true, true, true, true, true, true, true, true, false, false, false, false, false, false, false, false, false] (by kernel_rfl) ?_
              refine wpAnyT_begin [9, 10, 12, 13] (by kernel_rfl) (by kernel_rfl) ?_
              refine wpAnyT_take (oi := ⟨some 88, Op.load 32 (Operand.tmp 6), 32, _, _, some (8, false)⟩) (v := .agg #[.slice none 0 0, vf, vw, .slice ua k2 uc]) rfl (fun _ _ _ h => h) (by rfl) (by assumption) (fun wS hSw => ?_) ?_
              · (try dsimp only at hSw); go_simp
              simp only [Act.put, List.setIfInBounds_toArray, List.set_cons_zero, List.set_cons_succ]
              refine wpAnyT_take (oi := ⟨some 89, Op.move (Operand.tmp 13), 9, _, _, some (8, false)⟩) (v := .string ⟨s.toArray⟩) rfl (fun _ _ _ h => h) (by rfl) (by assumption) (fun wS hSw => ?_) ?_
              · (try dsimp only at hSw); go_simp
              simp only [Act.put, List.setIfInBounds_toArray, List.set_cons_zero, List.set_cons_succ]
              refine wpAnyT_take (oi := ⟨some 91, Op.load 32 (Operand.tmp 6), 32, _, _, some (8, false)⟩) (v := .agg #[.slice none 0 0, vf, vw, .slice ua k2 uc]) rfl (fun _ _ _ h => h) (by rfl) (by assumption) (fun wS hSw => ?_) ?_
              · (try dsimp only at hSw); go_simp
              simp only [Act.put, List.setIfInBounds_toArray, List.set_cons_zero, List.set_cons_succ]
              refine wpAnyT_take (oi := ⟨some 92, Op.move (Operand.tmp 13), 9, _, _, some (8, false)⟩) (v := .string ⟨s.toArray⟩) rfl (fun _ _ _ h => h) (by rfl) (by assumption) (fun wS hSw => ?_) ?_
              · (try dsimp only at hSw); go_simp
              simp only [Act.put, List.setIfInBounds_toArray, List.set_cons_zero, List.set_cons_succ]
              refine wpAnyT_end ?_
              refine wpAnyH_listed #[true, true, true, true, true, true, true, true, true, true, true, false, true, true, false, false, false, false] (by kernel_rfl) ?_
              refine wpAnyH_ready (rs := [11]) (by kernel_rfl) (by simp) ?_
              refine AllReadyH.cons (o := ⟨some 90, Op.call { callee := Callee.value (Operand.func 23), args := #[Operand.tmp 88, Operand.tmp 89], argTypes := #[32, 9] }, 44, _, _, some (8, false)⟩) rfl (fun K hK => ?_) AllReadyH.nil
              go_simp
              go_at_call 23
              refine (HN1.out _ G3).mono ?_
              rintro e W4 ⟨⟨x3, rfl, hO3⟩, g4⟩
              have G4 := G3.then g4
              have R3 := Lib.hid hO3.row
              clear hO3 g4 G3
              go_wp2_with fail
              clear hHeld
              refine hK.out _ _ (HMx.out _ G4) (fun hHeld => ?_)
              clear hK K
              try simp only [List.setIfInBounds_toArray, List.set_cons_zero, List.set_cons_succ]
              refine wpAnyH_listed #[true, true, true, true, true, true, true, true, true, true, true, true, true, true, false, false, false, false] (by kernel_rfl) ?_
              refine wpAnyH_ready (rs := [14]) (by kernel_rfl) (by simp) ?_
              refine AllReadyH.cons (o := ⟨some 93, Op.call { callee := Callee.value (Operand.func 24), args := #[Operand.tmp 91, Operand.tmp 92], argTypes := #[32, 9] }, 44, _, _, some (8, false)⟩) rfl (fun K hK => ?_) AllReadyH.nil
              go_simp
              go_at_call 24
              refine (HN2.out _ G4).mono ?_
              rintro e W5 ⟨⟨x4, rfl, hO4⟩, g5⟩
              have G5 := G4.then g5
              have R4 := Lib.hid hO4.row
              have R3 := Lib.hid (R3.out.later g5)
              clear hO4 g5 G4
              go_wp2_with fail
              clear hHeld
              refine hK.out _ _ (HMx.out _ G5) (fun hHeld => ?_)
              clear hK K
              try simp only [List.setIfInBounds_toArray, List.set_cons_zero, List.set_cons_succ]
              refine wpAnyH_listed #[true, true, true, true, true, true, true, true, true, true, true, true, true, true, true, false, false, false] (by kernel_rfl) ?_
              refine wpAnyH_ready (rs := [15]) (by kernel_rfl) (by simp) ?_
              refine AllReadyH.cons (o := ⟨some 94, Op.call { callee := Callee.value (Operand.func 20), args := #[Operand.tmp 90, Operand.tmp 93], argTypes := #[44, 44] }, 4, _, _, some (8, false)⟩) rfl (fun K hK => ?_) AllReadyH.nil
              go_simp
              go_at_call 20
              refine (same_is _ _ _ _ _ R3.out R4.out true (by simp)).mono ?_
              rintro e W6 ⟨rfl, g6⟩
              have G6 := G5.then g6
              clear g6 G5 R3 R4
              go_wp2_with fail
              clear hHeld
              refine hK.out _ _ (HMx.out _ G6) (fun hHeld => ?_)
              clear hK K
              try simp only [List.setIfInBounds_toArray, List.set_cons_zero, List.set_cons_succ]
              refine wpAnyH_listed #[true, true, true, true, true, true, true, true, true, true, true, true, true, true, true, true, false, false] (by kernel_rfl) ?_
              refine wpAnyT_begin [16] (by kernel_rfl) (by kernel_rfl) ?_
              refine wpAnyT_take (oi := ⟨some 95, Op.unOp UnOp.not 4 (Operand.tmp 94), 4, _, _, some (8, false)⟩) (v := .bool false) rfl (fun _ _ _ h => h) (by rfl) (by assumption) (fun wS hSw => ?_) ?_
              · (try dsimp only at hSw); go_simp
              simp only [Act.put, List.setIfInBounds_toArray, List.set_cons_zero, List.set_cons_succ]
              refine wpAnyT_end ?_
              refine wpAnyH_listed #[true, true, true, true, true, true, true, true, true, true, true, true, true, true, true, true, true, false] (by kernel_rfl) ?_
              refine wpAnyT_begin [17] (by kernel_rfl) (by kernel_rfl) ?_
              refine wpAnyT_take (oi := ⟨some 96, Op.pick (Operand.tmp 87) (Operand.const (Value.bool true)) (Operand.tmp 95), 4, _, _, none⟩) (v := .bool false) rfl (fun _ _ _ h => h) (by rfl) (by assumption) (fun wS hSw => ?_) ?_
              · (try dsimp only at hSw); go_simp
              simp only [Act.put, List.setIfInBounds_toArray, List.set_cons_zero, List.set_cons_succ]
              refine wpAnyT_end ?_
              refine wpAnyH_listed #[true, true, true, true, true, true, true, true, true, true, true, true, true, true, true, true, true, true] (by kernel_rfl) ?_
              refine wpAnyH_done (by kernel_rfl) ?_ _
              clear hHeld
              have HW2 := Lib.hid (Grows.then HW.out G6)
              clear HW G6
              go_wp2_with fail
              go_roundw
              case rel => exact ⟨j + 1, by omega, by go_num, HW2⟩
              case measure => simp [RowKit.intOf]; omega
            · obtain rfl : j = nl := by omega
              have b2 : ¬ ((j : Int) < j) := by omega
              have HE := Lib.hid (HGB.out.then HW.out)
              clear HW
              go_wp2_with fail
              go_ret
              exact ⟨rfl, HE.out⟩

end Go.Proofs.Ytiliommilcifeaa
