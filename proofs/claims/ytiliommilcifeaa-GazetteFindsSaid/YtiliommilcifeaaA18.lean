/- Named of the reference. -/
import Derived.Test.YtiliommilcifeaaA15
import Derived.Test.YtiliommilcifeaaA11
namespace Go.Proofs.Ytiliommilcifeaa
open Go.RowKit Go.Lib Go.Sort

theorem numsF_yes {fs : List Fc} {nm : List UInt8} {k : Nat} {p : Fc} (h : fs[k]? = some p) (e : p.nm = nm) : numsF (fs.take (k + 1)) nm = numsF (fs.take k) nm ++ [p.id] := by
  have := numsF_next (nm := nm) h []
  rw [if_pos e] at this
  simpa using this.symm
theorem numsF_no {fs : List Fc} {nm : List UInt8} {k : Nat} {p : Fc} (h : fs[k]? = some p) (e : ¬ p.nm = nm) : numsF (fs.take (k + 1)) nm = numsF (fs.take k) nm := by
  have := numsF_next (nm := nm) h []
  rw [if_neg e] at this
  simpa using this.symm
theorem numsP_yes {fs : List Pl} {nm : List UInt8} {k : Nat} {p : Pl} (h : fs[k]? = some p) (e : p.nm = nm) : numsP (fs.take (k + 1)) nm = numsP (fs.take k) nm ++ [p.id] := by
  have := numsP_next (nm := nm) h []
  rw [if_pos e] at this
  simpa using this.symm
theorem numsP_no {fs : List Pl} {nm : List UInt8} {k : Nat} {p : Pl} (h : fs[k]? = some p) (e : ¬ p.nm = nm) : numsP (fs.take (k + 1)) nm = numsP (fs.take k) nm := by
  have := numsP_next (nm := nm) h []
  rw [if_neg e] at this
  simpa using this.symm
set_option maxRecDepth 100000 in
set_option maxHeartbeats 16000000 in
theorem rnamed_any (vf vw vp : Value) (fs ws : List Fc) (ps : List Pl) (nm : List UInt8) (w : World) (hf : Row tF w vf fs) (hw : Row tW w vw ws) (hp : Row tP w vp ps) (hl : fs.length + ws.length + ps.length ≤ 1000000) :
    Calls Try.prog 24 #[.agg #[.slice none 0 0, vf, vw, vp], str nm] w fun e w' => (∃ u, e = .returned u ∧ Own tI w.heap.size w' u (namedI fs ws ps nm)) ∧ Grows w w' := by
  obtain ⟨af, nf, cf, rfl, hnf, hcf1, hcf2, hf⟩ := hf.form
  obtain ⟨aw, nw, cw, rfl, hnw, hcw1, hcw2, hw⟩ := hw.form
  obtain ⟨ap, np, cp, rfl, hnp, hcp1, hcp2, hp⟩ := hp.form
  rw [hnf, hnw, hnp] at hl
  have HNF := Lib.hid hnf
  have HNW := Lib.hid hnw
  have HNP := Lib.hid hnp
  unfold namedI
  unfold str
  have HM : Has w [(w.heap.size, [.slice none 0 0, .slice af nf cf, .slice aw nw cw, .slice ap np cp])] (w.alloc (.cells #[.slice none 0 0, .slice af nf cf, .slice aw nw cw, .slice ap np cp] 32)) := has1 _ _
  by_cases h0 : nm = []
  · have z0 : (nm == []) = true := by rw [h0]; rfl
    rw [if_pos h0]
    have HG := Lib.hid HM.low
    clear h0 hf hw hp HM
    go_enter Try.func24, Try.ntmps24
    go_wp2_with fail
    go_ret
    exact ⟨⟨_, rfl, Own.nil _ _⟩, HG.out⟩
  · have z0 : (nm == []) = false := by simpa using h0
    rw [if_neg h0]
    have HF := Lib.hid hf
    have HW := Lib.hid hw
    have HP := Lib.hid hp
    have HMH := Lib.hid HM
    clear h0 hf hw hp HM hnf hnw hnp
    go_enter Try.func24, Try.ntmps24
    go_upto_region 4 with fail
    generalize w.alloc _ = w1 at *
    generalize hM : w.heap.size = M at *
    go_wp2_with fail
    go_loopw [5, 6] (fun u x wx => ∃ k : Nat, k ≤ nf ∧ x = .int .i64 k ∧ ∃ os : List Int, Own tI M wx u os ∧ Hid (os.Perm (numsF (fs.take k) nm)) ∧ Hid (os.Pairwise (fun a b => a ≤ b)) ∧ Grows w1 wx) (fun _ x _ => nf - (RowKit.intOf x).toNat)
    case atStart => exact ⟨0, Nat.zero_le _, rfl, [], Own.nil _ _, Lib.hid .nil, Lib.hid .nil, Below.refl _ _⟩
    case round =>

      obtain ⟨k, hk, rfl, os, hO, HPe, HSt, hG⟩ := hrel
      have HO := Lib.hid hO
      have HG := Lib.hid hG
      have hos : os.length ≤ 1000000 := by
        have h1 := HPe.out.length_eq
        have h2 := numsF_length (fs.take k) nm
        rw [List.length_take] at h2
        have h3 := numsF_length fs nm
        have h4 := numsF_length ws nm
        have h5 := numsP_length ps nm
        rw [HNF.out] at h3
        rw [HNW.out] at h4
        rw [HNP.out] at h5
        try simp only [List.length_append] at h1
        omega
      have m1 := (HMH.out.later hG).fact (.head _) (i := 1) rfl
      simp only [] at m1
      clear hO hG
      by_cases hlt : k < nf
      · obtain ⟨p, hq0⟩ : ∃ p, fs[k]? = some p := ⟨_, List.getElem?_eq_getElem (by rw [HNF.out]; exact hlt)⟩
        obtain ⟨b, o, rfl, -⟩ := HF.out.spot tF_ok (by rw [HNF.out]; omega)
        obtain ⟨c0, c1, c2, c3, c4⟩ := (HF.out.later (Grows.then HMH.out.low HG.out)).faces hq0
        simp only [Fc.cells, str, List.getElem_cons_zero, List.getElem_cons_succ] at c0 c1 c2 c3 c4
        have b1 : (k : Int) < nf := by omega
        have b2 : (0 : Int) ≤ k := by omega
        by_cases e : p.nm = nm
        · have z1 : (p.nm == nm) = true := by rw [e]; simp
          have HE := Lib.hid (numsF_yes hq0 e)
          have HC := Lib.hid (fun u (ho : Own tI M wr u os) => put_any u os p.id wr ho hos)
          have HCo := Lib.hid (HC.out _ HO.out)
          have hMl : M ≤ wr.heap.size := Nat.le_trans (Nat.le_of_lt (HMH.out.lt _ (.head _))) HG.out.size
          clear hq0 e HC
          go_wp2_with fail
          refine HCo.out.mono ?_
          rintro e w3 ⟨⟨u3, rfl, hO3⟩, g3⟩
          have HO3 := Lib.hid (hO3.base hMl)
          have HG3 := Lib.hid (HG.out.then g3)
          have HP3 := Lib.hid (show (putL os p.id).Perm (numsF (fs.take (k + 1)) nm) by
            rw [HE.out]; exact (putL_perm _ _).trans (HPe.out.append_right _))
          have HS3 := Lib.hid (putL_sorted p.id HSt.out)
          clear hO3 g3 HCo HO HG m1 c0 c1 c2 c3 c4 hMl
          go_wp2_with fail
          go_roundw
          case rel => exact ⟨k + 1, by omega, by go_num, _, HO3.out, HP3, HS3, HG3.out⟩
          case measure => simp [RowKit.intOf]; omega
        · have z1 : (p.nm == nm) = false := by simpa using e
          have HE := Lib.hid (numsF_no hq0 e)
          clear hq0 e
          go_wp2_with fail
          go_roundw
          case rel => exact ⟨k + 1, by omega, by go_num, os, HO.out, by rw [HE.out]; exact HPe, HSt, HG.out⟩
          case measure => simp [RowKit.intOf]; omega
      · obtain rfl : k = nf := by omega
        have HPo := Lib.hid (show os.Perm (numsF fs nm) by
          have := HPe.out
          rw [List.take_of_length_le (by rw [HNF.out]; exact Nat.le_refl _)] at this; exact this)
        have HOo := Lib.hid HO.out
        have HSo := HSt
        have HGo := Lib.hid HG.out
        have b1 : ¬ ((k : Int) < k) := by omega
        clear HO HPe HSt HG
        generalize wr = wz at *
        go_wp2_with fail
        go_loopw [5, 7] (fun u x wx => ∃ k : Nat, k ≤ nw ∧ x = .int .i64 k ∧ ∃ os : List Int, Own tI M wx u os ∧ Hid (os.Perm (numsF fs nm ++ numsF (ws.take k) nm)) ∧ Hid (os.Pairwise (fun a b => a ≤ b)) ∧ Grows w1 wx) (fun _ x _ => nw - (RowKit.intOf x).toNat)
        case atStart => exact ⟨0, Nat.zero_le _, rfl, os, HOo.out, Lib.hid (by simpa [numsF, numsP] using HPo.out), HSo, HGo.out⟩
        case round =>
          clear HOo HPo HSo HGo
          obtain ⟨k, hk, rfl, os, hO, HPe, HSt, hG⟩ := hrel
          have HO := Lib.hid hO
          have HG := Lib.hid hG
          have hos : os.length ≤ 1000000 := by
            have h1 := HPe.out.length_eq
            have h2 := numsF_length (ws.take k) nm
            rw [List.length_take] at h2
            have h3 := numsF_length fs nm
            have h4 := numsF_length ws nm
            have h5 := numsP_length ps nm
            rw [HNF.out] at h3
            rw [HNW.out] at h4
            rw [HNP.out] at h5
            try simp only [List.length_append] at h1
            omega
          have m1 := (HMH.out.later hG).fact (.head _) (i := 2) rfl
          simp only [] at m1
          clear hO hG
          by_cases hlt : k < nw
          · obtain ⟨p, hq0⟩ : ∃ p, ws[k]? = some p := ⟨_, List.getElem?_eq_getElem (by rw [HNW.out]; exact hlt)⟩
            obtain ⟨b, o, rfl, -⟩ := HW.out.spot tW_ok (by rw [HNW.out]; omega)
            obtain ⟨c0, c1, c2, c3, c4, c5, c6, c7⟩ := (HW.out.later (Grows.then HMH.out.low HG.out)).ways hq0
            simp only [wcells, str, List.getElem_cons_zero, List.getElem_cons_succ] at c0 c1 c2 c3 c4 c5 c6 c7
            have b1 : (k : Int) < nw := by omega
            have b2 : (0 : Int) ≤ k := by omega
            by_cases e : p.nm = nm
            · have z1 : (p.nm == nm) = true := by rw [e]; simp
              have HE := Lib.hid (numsF_yes hq0 e)
              have HC := Lib.hid (fun u (ho : Own tI M wr u os) => put_any u os p.id wr ho hos)
              have HCo := Lib.hid (HC.out _ HO.out)
              have hMl : M ≤ wr.heap.size := Nat.le_trans (Nat.le_of_lt (HMH.out.lt _ (.head _))) HG.out.size
              clear hq0 e HC
              go_wp2_with fail
              refine HCo.out.mono ?_
              rintro e w3 ⟨⟨u3, rfl, hO3⟩, g3⟩
              have HO3 := Lib.hid (hO3.base hMl)
              have HG3 := Lib.hid (HG.out.then g3)
              have HP3 := Lib.hid (show (putL os p.id).Perm (numsF fs nm ++ numsF (ws.take (k + 1)) nm) by
                rw [HE.out, ← List.append_assoc]; exact (putL_perm _ _).trans (HPe.out.append_right _))
              have HS3 := Lib.hid (putL_sorted p.id HSt.out)
              clear hO3 g3 HCo HO HG m1 c0 c1 c2 c3 c4 c5 c6 c7 hMl
              go_wp2_with fail
              go_roundw
              case rel => exact ⟨k + 1, by omega, by go_num, _, HO3.out, HP3, HS3, HG3.out⟩
              case measure => simp [RowKit.intOf]; omega
            · have z1 : (p.nm == nm) = false := by simpa using e
              have HE := Lib.hid (numsF_no hq0 e)
              clear hq0 e
              go_wp2_with fail
              go_roundw
              case rel => exact ⟨k + 1, by omega, by go_num, os, HO.out, by rw [HE.out]; exact HPe, HSt, HG.out⟩
              case measure => simp [RowKit.intOf]; omega
          · obtain rfl : k = nw := by omega
            have HPo := Lib.hid (show os.Perm (numsF fs nm ++ numsF ws nm) by
              have := HPe.out
              rw [List.take_of_length_le (by rw [HNW.out]; exact Nat.le_refl _)] at this; exact this)
            have HOo := Lib.hid HO.out
            have HSo := HSt
            have HGo := Lib.hid HG.out
            have b1 : ¬ ((k : Int) < k) := by omega
            clear HO HPe HSt HG
            generalize wr = wz at *
            go_wp2_with fail
            go_loopw [5, 8] (fun u x wx => ∃ k : Nat, k ≤ np ∧ x = .int .i64 k ∧ ∃ os : List Int, Own tI M wx u os ∧ Hid (os.Perm (numsF fs nm ++ numsF ws nm ++ numsP (ps.take k) nm)) ∧ Hid (os.Pairwise (fun a b => a ≤ b)) ∧ Grows w1 wx) (fun _ x _ => np - (RowKit.intOf x).toNat)
            case atStart => exact ⟨0, Nat.zero_le _, rfl, os, HOo.out, Lib.hid (by simpa [numsF, numsP] using HPo.out), HSo, HGo.out⟩
            case round =>
              clear HOo HPo HSo HGo
              obtain ⟨k, hk, rfl, os, hO, HPe, HSt, hG⟩ := hrel
              have HO := Lib.hid hO
              have HG := Lib.hid hG
              have hos : os.length ≤ 1000000 := by
                have h1 := HPe.out.length_eq
                have h2 := numsP_length (ps.take k) nm
                rw [List.length_take] at h2
                have h3 := numsF_length fs nm
                have h4 := numsF_length ws nm
                have h5 := numsP_length ps nm
                rw [HNF.out] at h3
                rw [HNW.out] at h4
                rw [HNP.out] at h5
                try simp only [List.length_append] at h1
                omega
              have m1 := (HMH.out.later hG).fact (.head _) (i := 3) rfl
              simp only [] at m1
              clear hO hG
              by_cases hlt : k < np
              · obtain ⟨p, hq0⟩ : ∃ p, ps[k]? = some p := ⟨_, List.getElem?_eq_getElem (by rw [HNP.out]; exact hlt)⟩
                obtain ⟨b, o, rfl, -⟩ := HP.out.spot tP_ok (by rw [HNP.out]; omega)
                obtain ⟨c0, c1, c2, c3, c4, c5, c6⟩ := (HP.out.later (Grows.then HMH.out.low HG.out)).places hq0
                simp only [Pl.cells, str, List.getElem_cons_zero, List.getElem_cons_succ] at c0 c1 c2 c3 c4 c5 c6
                have b1 : (k : Int) < np := by omega
                have b2 : (0 : Int) ≤ k := by omega
                by_cases e : p.nm = nm
                · have z1 : (p.nm == nm) = true := by rw [e]; simp
                  have HE := Lib.hid (numsP_yes hq0 e)
                  have HC := Lib.hid (fun u (ho : Own tI M wr u os) => put_any u os p.id wr ho hos)
                  have HCo := Lib.hid (HC.out _ HO.out)
                  have hMl : M ≤ wr.heap.size := Nat.le_trans (Nat.le_of_lt (HMH.out.lt _ (.head _))) HG.out.size
                  clear hq0 e HC
                  go_wp2_with fail
                  refine HCo.out.mono ?_
                  rintro e w3 ⟨⟨u3, rfl, hO3⟩, g3⟩
                  have HO3 := Lib.hid (hO3.base hMl)
                  have HG3 := Lib.hid (HG.out.then g3)
                  have HP3 := Lib.hid (show (putL os p.id).Perm (numsF fs nm ++ numsF ws nm ++ numsP (ps.take (k + 1)) nm) by
                    rw [HE.out, ← List.append_assoc]; exact (putL_perm _ _).trans (HPe.out.append_right _))
                  have HS3 := Lib.hid (putL_sorted p.id HSt.out)
                  clear hO3 g3 HCo HO HG m1 c0 c1 c2 c3 c4 c5 c6 hMl
                  go_wp2_with fail
                  go_roundw
                  case rel => exact ⟨k + 1, by omega, by go_num, _, HO3.out, HP3, HS3, HG3.out⟩
                  case measure => simp [RowKit.intOf]; omega
                · have z1 : (p.nm == nm) = false := by simpa using e
                  have HE := Lib.hid (numsP_no hq0 e)
                  clear hq0 e
                  go_wp2_with fail
                  go_roundw
                  case rel => exact ⟨k + 1, by omega, by go_num, os, HO.out, by rw [HE.out]; exact HPe, HSt, HG.out⟩
                  case measure => simp [RowKit.intOf]; omega
              · obtain rfl : k = np := by omega
                have HPo := Lib.hid (show os.Perm (numsF fs nm ++ numsF ws nm ++ numsP ps nm) by
                  have := HPe.out
                  rw [List.take_of_length_le (by rw [HNP.out]; exact Nat.le_refl _)] at this; exact this)
                have HOo := Lib.hid HO.out
                have HSo := HSt
                have HGo := Lib.hid HG.out
                have b1 : ¬ ((k : Int) < k) := by omega
                clear HO HPe HSt HG
                generalize wr = wz at *
                have HE := Lib.hid (show os = sortI (numsF fs nm ++ numsF ws nm ++ numsP ps nm) from sortI_eq HPo.out HSo.out)
                rw [HE.out] at HOo
                have HGe := Lib.hid (Grows.then HMH.out.low HGo.out)
                clear HPo HSo HGo
                go_wp2_with fail
                go_ret
                exact ⟨⟨_, rfl, by rw [← List.append_assoc]; exact HOo.out⟩, HGe.out⟩

end Go.Proofs.Ytiliommilcifeaa
