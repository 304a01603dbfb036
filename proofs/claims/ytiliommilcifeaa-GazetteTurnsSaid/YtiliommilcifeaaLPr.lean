/- The walk of GazettePrefix. -/
import Derived.Test.YtiliommilcifeaaA13
import Derived.Test.YtiliommilcifeaaMb
import Derived.Test.YtiliommilcifeaaLNa
namespace Go.Proofs.Ytiliommilcifeaa
open Go.RowKit Go.Lib Go.Sort

theorem fits_take {s : List UInt8} (h : Fits s) (k : Nat) : Fits (s.take k) := by unfold Fits at *; rw [List.length_take]; omega
attribute [local go_sem] ba_extract
theorem tmod_nat (a b : Nat) : Int.tmod (a : Int) (b : Int) = ((a % b : Nat) : Int) := rfl
set_option maxRecDepth 100000 in
set_option maxHeartbeats 16000000 in
theorem prefix_any (v : Value) (ps : List Pl) (m1 m2 : Nat) (w : World) (hv : Row tP w v ps) (hg : ∀ p ∈ ps, p.good) (h1 : m1 < 256) (h2 : m2 < 256) :
    Calls Try.prog 6 #[v, .int .u8 (m1 : Int), .int .u8 (m2 : Int)] w fun e w' => e = .returned (.bool true) ∧ Grows w w' := by
  have HVr := Lib.hid hv
  have hv0 := hv.form
  obtain ⟨a, n0, c, rfl, -, -, -, -⟩ := hv0
  clear hv
  have HFn := Lib.hid (cutPs_fine ps)
  have HLen := Lib.hid (cutPs_length ps)
  have HPl := Lib.hid (fun w' (g : Grows w w') => places_any _ ps w' (HVr.out.later g) hg)
  generalize cutPs ps = L at *
  go_enter Try.func6, Try.ntmps6
  go_wp2_with fail
  refine (sane_any w).mono ?_
  rintro e w1 ⟨rfl, g1⟩
  go_wp2_with fail
  refine (HPl.out _ g1).mono ?_
  rintro e w2 ⟨⟨u, rfl, hO⟩, g2⟩
  have HR := Lib.hid hO.row
  have HG := Lib.hid (g1.then g2)
  obtain ⟨ua, uc, rfl, -, -⟩ := hO.form
  obtain ⟨n, hn⟩ : ∃ n, L.length = n := ⟨_, rfl⟩
  rw [hn] at HLen HR ⊢
  have HN := Lib.hid hn
  clear hO g1 g2 HPl HVr hg hn
  by_cases h0 : n = 0
  · subst h0
    obtain rfl : L = [] := List.eq_nil_of_length_eq_zero HN.out
    go_wp2_with fail
    refine (find_any _ [] [] _ HR.out HFn.out (by unfold Fits; decide)).mono ?_
    rintro e w3 ⟨⟨q, rfl, hO⟩, g⟩
    have hz : found [] [] = [] := by decide +kernel
    rw [hz] at hO
    obtain ⟨qa, qc, rfl, -, -⟩ := hO.form
    have HG2 := Lib.hid (HG.out.then g)
    clear hO g
    go_wp2_with fail
    go_ret
    exact ⟨rfl, HG2.out⟩
  · have z0 : ((n : Int) == 0) = false := by simp; omega
    have z1 : ¬ (n : Int) = 0 := by omega
    obtain ⟨i, hi⟩ : ∃ i, m1 % n = i := ⟨_, rfl⟩
    have hin : i < n := by rw [← hi]; exact Nat.mod_lt _ (by omega)
    have e1 : Int.tmod (m1 : Int) (n : Int) = (i : Int) := by rw [tmod_nat, hi]
    have e2 : (m1 : Int) % (n : Int) = (i : Int) := by rw [← hi]; omega
    obtain ⟨p, hp⟩ : ∃ p, L[i]? = some p := ⟨_, List.getElem?_eq_getElem (by rw [HN.out]; exact hin)⟩
    obtain ⟨b, o, rfl, -⟩ := HR.out.spot tP_ok (by rw [HN.out]; omega)
    obtain ⟨c0, c1, c2, c3, c4, c5, c6⟩ := HR.out.place hp
    have hpf := HFn.out.2 p (List.mem_of_getElem? hp)
    have b1 : (i : Int) < n := by omega
    have b2 : (0 : Int) ≤ i := by omega
    generalize p.nm = nm at *
    unfold str at c4
    clear c0 c1 c2 c3 c5 c6 hp hi
    obtain ⟨j, hj⟩ : ∃ j, m2 % (nm.length + 1) = j := ⟨_, rfl⟩
    have hjn : j < nm.length + 1 := by rw [← hj]; exact Nat.mod_lt _ (by omega)
    have e3 : Int.tmod (m2 : Int) ((nm.length : Int) + 1) = (j : Int) := by rw [← hj]; exact tmod_nat m2 (nm.length + 1)
    have z2 : ¬ ((nm.length : Int) + 1 = 0) := by omega
    have b3 : (j : Int) ≤ nm.length := by omega
    have b4 : (0 : Int) ≤ j := by omega
    have hl := hpf
    unfold Fits at hl
    have b5 : (nm.length : Int) + 1 ≤ 9223372036854775807 := by omega
    clear hj
    go_upto_region 7 with fail
    have hsf := fits_take hpf j
    generalize nm.take j = s at *
    have hl2 := hsf
    unfold Fits at hl2
    obtain ⟨q, hq⟩ : ∃ q, s.length / 2 = q := ⟨_, rfl⟩
    have e4 : Int.tdiv (s.length : Int) 2 = (q : Int) := by rw [← hq]; rfl
    have e5 : (s.length : Int) / 2 = (q : Int) := by omega
    have b6 : (q : Int) ≤ s.length := by omega
    have b7 : (0 : Int) ≤ q := by omega
    clear hq
    go_upto_region 8 with fail
    have hqf := fits_take hsf q
    have HF1 := Lib.hid (find_any _ L s w2 HR.out HFn.out hsf)
    have HF2 := Lib.hid (fun w' (g : Grows w2 w') => find_any _ L (s.take q) w' (HR.out.later g) HFn.out hqf)
    have HF3 := Lib.hid (fun w' (g : Grows w2 w') => find_any _ L [] w' (HR.out.later g) HFn.out (by unfold Fits; decide))
    have HF4 := Lib.hid (fun w' (g : Grows w2 w') => found_fold L s ▸ find_any _ L (fold s) w' (HR.out.later g) HFn.out (fits_fold hsf))
    have HFo := Lib.hid (fun w => fold_any s hsf w)
    have HSub := Lib.hid (greedy_all (found L s) (found L (s.take q)) 0 (Nat.zero_le _) (found_part L s q))
    have hfl := found_length L s
    have hml := found_length L (s.take q)
    have HNm := Lib.hid (found_all L)
    rw [HN.out] at hfl hml
    clear e1 e2 e3 e4 e5 z1 z2 b1 b2 b3 b4 b5 b6 b7 hl hl2 c4 hpf hjn h1 h2 hqf
    generalize found L s = F at *
    generalize found L (s.take q) = M at *
    generalize fold s = fs at *
    generalize found L [] = E at *
    have hn10 := HLen.out
    generalize s.take q = sq at *
    unfold str at *
    go_wp2_with fail
    refine HF1.out.mono ?_
    rintro e w3 ⟨⟨u1, rfl, hO1⟩, g3⟩
    have HG3 := Lib.hid g3
    have HR1 := Lib.hid hO1.row
    obtain ⟨u1a, u1c, rfl, -, -⟩ := hO1.form
    clear HF1 g3 hO1
    go_wp2_with fail
    refine (HF2.out _ HG3.out).mono ?_
    rintro e w4 ⟨⟨u2, rfl, hO2⟩, g4⟩
    have HG4 := Lib.hid (HG3.out.then g4)
    have HR1 := Lib.hid (HR1.out.later g4)
    have HR2 := Lib.hid hO2.row
    obtain ⟨u2a, u2c, rfl, -, -⟩ := hO2.form
    clear HF2 g4 hO2 HG3
    go_wp2_with fail
    obtain ⟨fl, hfl2⟩ : ∃ fl, F.length = fl := ⟨_, rfl⟩
    obtain ⟨ml, hml2⟩ : ∃ ml, M.length = ml := ⟨_, rfl⟩
    rw [hfl2] at HR1 hfl HSub ⊢
    rw [hml2] at HR2 hml ⊢
    have HFL := Lib.hid hfl2
    have HML := Lib.hid hml2
    clear hfl2 hml2
    go_loop [12, 61] (fun kk x => ∃ k j : Nat, j ≤ ml ∧ x = .int .i64 j ∧ kk = .int .i64 k ∧ Hid (k = greedy F (M.take j) 0)) (fun _ x => ml - (RowKit.intOf x).toNat)
    case atStart => exact ⟨0, 0, Nat.zero_le _, rfl, rfl, Lib.hid rfl⟩
    case round =>
      obtain ⟨k, j, hj, rfl, rfl, HK⟩ := hrel
      by_cases hlt : j < ml
      · obtain ⟨id, hid⟩ : ∃ id, M[j]? = some id := ⟨_, List.getElem?_eq_getElem (by rw [HML.out]; exact hlt)⟩
        obtain ⟨bm, om, rfl, -⟩ := HR2.out.spot tI_ok (by rw [HML.out]; omega)
        have c0 := HR2.out.num hid
        have b1 : (j : Int) < ml := by omega
        have b2 : (0 : Int) ≤ j := by omega
        have HX := Lib.hid (greedy_next (few := F) hid)
        rw [← HK.out] at HX
        have hkl : k ≤ fl := by rw [HK.out, ← HFL.out]; exact greedy_le F _ 0 (Nat.zero_le _)
        clear hid
        by_cases hk : k < fl
        · obtain ⟨y, hy⟩ : ∃ y, F[k]? = some y := ⟨_, List.getElem?_eq_getElem (by rw [HFL.out]; exact hk)⟩
          obtain ⟨bf, of, rfl, -⟩ := HR1.out.spot tI_ok (by rw [HFL.out]; omega)
          have c1 := HR1.out.num hy
          have b3 : (k : Int) < fl := by omega
          have b4 : (0 : Int) ≤ k := by omega
          by_cases e : y = id
          · have z3 : (y == id) = true := by simpa using e
            have HY := Lib.hid (show k + 1 = greedy F (M.take (j + 1)) 0 by rw [HX.out, hy, if_pos (by rw [e])])
            clear e hy HX HK
            go_wp2_with fail
            go_round
            case rel => exact ⟨k + 1, j + 1, by omega, by go_num, by go_num, HY⟩
            case measure => simp [RowKit.intOf]; omega
          · have z3 : (y == id) = false := by simpa using e
            have HY := Lib.hid (show k = greedy F (M.take (j + 1)) 0 by rw [HX.out, hy, if_neg (by simpa using e)])
            clear e hy HX HK
            go_wp2_with fail
            go_round
            case rel => exact ⟨k, j + 1, by omega, by go_num, rfl, HY⟩
            case measure => simp [RowKit.intOf]; omega
        · have b3 : ¬ (k : Int) < fl := by omega
          have HY := Lib.hid (show k = greedy F (M.take (j + 1)) 0 by rw [HX.out, List.getElem?_eq_none (by rw [HFL.out]; omega)]; simp)
          clear HX HK
          go_wp2_with fail
          go_round
          case rel => exact ⟨k, j + 1, by omega, by go_num, rfl, HY⟩
          case measure => simp [RowKit.intOf]; omega
      · obtain rfl : j = ml := by omega
        have HKE := Lib.hid (show k = fl by rw [HK.out, ← HSub.out, List.take_of_length_le (by rw [HML.out]; exact Nat.le_refl _)])
        have b1 : ¬ (j : Int) < j := by omega
        obtain rfl := HKE.out
        clear HK HKE HSub
        go_wp2_with fail
        go_loopw [15, 82] (fun kk x wx => ∃ t : Nat, t ≤ n ∧ x = .int .i64 t ∧ kk = .int .i64 (namedC (L.take t) : Nat) ∧ Hid (Grows w4 wx)) (fun _ x _ => n - (RowKit.intOf x).toNat)
        case atStart => exact ⟨0, Nat.zero_le _, rfl, rfl, Lib.hid (Below.refl _ _)⟩
        case round =>
          obtain ⟨t, ht, rfl, rfl, HW⟩ := hrel
          by_cases hlt : t < n
          · obtain ⟨r, hr⟩ : ∃ r, L[t]? = some r := ⟨_, List.getElem?_eq_getElem (by rw [HN.out]; exact hlt)⟩
            obtain ⟨c0, c1, c2, c3, c4, c5, c6⟩ := (HR.out.later (HG4.out.then HW.out)).place hr
            have HX := Lib.hid (namedC_next hr)
            have hnl := namedC_le (L.take t)
            rw [List.length_take] at hnl
            have b1 : (t : Int) < n := by omega
            have b2 : (0 : Int) ≤ t := by omega
            have HB : Has wr [(wr.heap.size, r.cells)] (wr.alloc (.cells r.cells.toArray 36)) := has1 _ _
            have HW2 := Lib.hid (HW.out.then HB.low)
            unfold Pl.cells at HB HW2
            unfold str at HB HW2 c3 c4
            generalize namedC (L.take t) = nc at *
            go_upto_region 20 with fail
            generalize hw2 : wr.alloc _ = wz at *
            generalize hP : wr.heap.size = P at *
            clear c0 c1 c2 c3 c4 c5 c6 HW
            have d4 := HB.fact (.head _) (i := 4) rfl
            simp only [] at d4
            clear HB hw2 hP
            by_cases h0 : r.nm = []
            · have z3 : (r.nm == []) = true := by rw [h0]; rfl
              rw [if_pos h0] at HX
              clear h0 hr
              go_wp2_with fail
              go_roundw
              case rel => exact ⟨t + 1, by omega, by go_num, by rw [HX.out], HW2⟩
              case measure => simp [RowKit.intOf]; omega
            · have z3 : (r.nm == []) = false := by simpa using h0
              rw [if_neg h0] at HX
              clear h0 hr
              go_wp2_with fail
              go_roundw
              case rel => exact ⟨t + 1, by omega, by go_num, by rw [HX.out]; go_num, HW2⟩
              case measure => simp [RowKit.intOf]; omega
          · obtain rfl : t = n := by omega
            have HE : namedC (L.take t) = E.length := by rw [HNm.out, List.take_of_length_le (by rw [HN.out]; exact Nat.le_refl _)]
            rw [HE]
            have b1 : ¬ (t : Int) < t := by omega
            obtain ⟨el, hel⟩ : ∃ el, E.length = el := ⟨_, rfl⟩
            rw [hel]
            have HEL := Lib.hid hel
            have HG5 := Lib.hid (HG4.out.then HW.out)
            have HR1 := Lib.hid (HR1.out.later HW.out)
            clear HE hel HW HG4
            go_wp2_with fail
            refine (HF3.out _ HG5.out).mono ?_
            rintro e w5 ⟨⟨u3, rfl, hO3⟩, g5⟩
            obtain ⟨u3a, u3c, rfl, -, -⟩ := hO3.form
            rw [HEL.out]
            have HG6 := Lib.hid (HG5.out.then g5)
            have HR1 := Lib.hid (HR1.out.later g5)
            clear HF3 HG5 hO3 g5
            go_wp2_with fail
            refine (HFo.out _).mono ?_
            rintro e w6 ⟨rfl, g6⟩
            have HG7 := Lib.hid (HG6.out.then g6)
            have HR1 := Lib.hid (HR1.out.later g6)
            clear HG6 g6
            go_wp2_with fail
            refine (HF4.out _ HG7.out).mono ?_
            rintro e w7 ⟨⟨u4, rfl, hO4⟩, g7⟩
            have HR4 := Lib.hid hO4.row
            have HG8 := Lib.hid (HG7.out.then g7)
            have HR1 := Lib.hid (HR1.out.later g7)
            clear HG7 g7 hO4
            go_wp2_with fail
            refine (same_is _ _ _ _ _ HR4.out HR1.out true (by simp)).mono ?_
            rintro e w8 ⟨rfl, g8⟩
            have HG9 := Lib.hid ((HG.out.then HG8.out).then g8)
            clear g8 HG8
            go_wp2_with fail
            go_ret
            exact ⟨rfl, HG9.out⟩
end Go.Proofs.Ytiliommilcifeaa
