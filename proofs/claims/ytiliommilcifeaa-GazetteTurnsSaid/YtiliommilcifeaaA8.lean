/- Find. -/
import Derived.Test.YtiliommilcifeaaA6
import Derived.Test.YtiliommilcifeaaA7
namespace Go.Proofs.Ytiliommilcifeaa
open Go.RowKit Go.Lib Go.Sort

/-- A list of places with short names, not too many. -/
def Fine (ps : List Pl) : Prop := ps.length ≤ 100000 ∧ ∀ p ∈ ps, Fits p.nm
def bgs (ps : List Pl) (pre : List UInt8) : List Pl := ps.filter fun p => beg pre p.nm
theorem bgs_yes {ps : List Pl} {pre : List UInt8} {k : Nat} {p : Pl} (h : ps[k]? = some p) (hb : beg pre p.nm = true) : bgs (ps.take (k + 1)) pre = bgs (ps.take k) pre ++ [p] := by
  obtain ⟨h1, h2⟩ := List.getElem?_eq_some_iff.1 h
  unfold bgs
  rw [List.take_succ_eq_append_getElem h1, List.filter_append, h2]; simp [hb]
theorem bgs_no {ps : List Pl} {pre : List UInt8} {k : Nat} {p : Pl} (h : ps[k]? = some p) (hb : beg pre p.nm = false) : bgs (ps.take (k + 1)) pre = bgs (ps.take k) pre := by
  obtain ⟨h1, h2⟩ := List.getElem?_eq_some_iff.1 h
  unfold bgs
  rw [List.take_succ_eq_append_getElem h1, List.filter_append, h2]; simp [hb]
theorem bgs_length (ps : List Pl) (pre : List UInt8) : (bgs ps pre).length ≤ ps.length := List.length_filter_le _ _
theorem beg_empty (pre : List UInt8) : beg pre [] = false := by simp [beg]
/-- The seven cells of a place in a row. -/
theorem Row.place {w : World} {b o n c : Nat} {ps : List Pl} (h : Row tP w (.slice (some ⟨b, o, none⟩) n c) ps) {k : Nat} {p : Pl} (hk : ps[k]? = some p) :
    w.cell? ⟨b, o + k * 7, none⟩ = some (.int .i64 p.id) ∧ w.cell? ⟨b, o + k * 7 + 1, none⟩ = some (.int .i64 p.x) ∧ w.cell? ⟨b, o + k * 7 + 2, none⟩ = some (.int .i64 p.y) ∧ w.cell? ⟨b, o + k * 7 + 3, none⟩ = some (str p.cls) ∧
    w.cell? ⟨b, o + k * 7 + 4, none⟩ = some (str p.nm) ∧ w.cell? ⟨b, o + k * 7 + 5, none⟩ = some (.int .i64 p.w) ∧ w.cell? ⟨b, o + k * 7 + 6, none⟩ = some (.int .i64 p.d) := by
  obtain ⟨b', o', e, hq⟩ := h.spot tP_ok (by have := (List.getElem?_eq_some_iff.1 hk).1; omega)
  injection e with e; injection e with e1 e2; subst e1; subst e2
  exact ⟨hq k p 0 _ hk rfl, hq k p 1 _ hk rfl, hq k p 2 _ hk rfl, hq k p 3 _ hk rfl, hq k p 4 _ hk rfl, hq k p 5 _ hk rfl, hq k p 6 _ hk rfl⟩
theorem spl_of : ∀ {ps : List Pl}, (∀ p ∈ ps, Fits p.nm) → ∃ qs : List SPl, qs.map Subtype.val = ps
  | [], _ => ⟨[], rfl⟩
  | p :: ps, h => by
    obtain ⟨qs, hq⟩ := spl_of (ps := ps) (fun x hx => h x (.tail _ hx))
    exact ⟨⟨p, h p (.head _)⟩ :: qs, by rw [List.map_cons, hq]⟩
theorem found_of {ps : List Pl} {pre : List UInt8} {rs : List SPl} {qs : List SPl} (hq : qs.map Subtype.val = bgs ps pre) (hp : rs.Perm qs) (hs : rs.Pairwise (fun x y => leK x.1.key y.1.key = true)) : rs.map (fun x => x.1.id) = found ps pre := by
  have h1 : rs.map (fun x => x.1.key) = sortK ((bgs ps pre).map Pl.key) := by
    refine sortK_eq ?_ (List.pairwise_map.2 hs)
    rw [← hq, List.map_map]
    exact hp.map _
  unfold found foundK
  show _ = (sortK ((bgs ps pre).map Pl.key)).map _
  rw [← h1, List.map_map]
  rfl
set_option maxRecDepth 100000 in
set_option maxHeartbeats 8000000 in
theorem find_any (v : Value) (ps : List Pl) (pre : List UInt8) (w : World) (hv : Row tP w v ps) (hf : Fine ps) (hp : Fits pre) :
    Calls Try.prog 21 #[v, str pre] w fun e w' => (∃ u, e = .returned u ∧ Own tI w.heap.size w' u (found ps pre)) ∧ Grows w w' := by
  obtain ⟨a, n, c, rfl, hn, hc1, hc2, hv⟩ := hv.form
  have HV := Lib.hid hv
  have HN := Lib.hid hn
  have HF := Lib.hid hf
  have HA := Lib.hid (fold_any pre hp w)
  have hl : n ≤ 100000 := by have := hf.1; omega
  clear hv hn hf
  go_enter Try.func21, Try.ntmps21
  go_wp2_with fail
  refine HA.out.mono ?_
  rintro e w1 ⟨rfl, g1⟩
  have G1 := Lib.hid g1
  clear HA g1
  unfold str
  go_wp2_with fail
  go_loopw [6, 16] (fun u i wx => ∃ k : Nat, k ≤ n ∧ i = .int .i64 k ∧ Own tP w.heap.size wx u (bgs (ps.take k) pre) ∧ Grows w wx) (fun _ i _ => n - (RowKit.intOf i).toNat)
  case atStart => exact ⟨0, Nat.zero_le _, rfl, Own.nil _ _, G1.out⟩
  case round =>
    obtain ⟨k, hk, rfl, HO0, HG0⟩ := hrel
    have HO := Lib.hid HO0
    have HG := Lib.hid HG0
    clear HO0 HG0
    by_cases hlt : k < n
    · obtain ⟨p, hkp⟩ : ∃ p, ps[k]? = some p := ⟨_, List.getElem?_eq_getElem (by rw [HN.out]; exact hlt)⟩
      obtain ⟨b, o, rfl, -⟩ := HV.out.spot tP_ok (by rw [HN.out]; omega)
      obtain ⟨c0, c1, c2, c3, c4, c5, c6⟩ := (HV.out.later HG.out).place hkp
      have HK := Lib.hid hkp
      have b1 : (k : Int) < n := by omega
      have b2 : (0 : Int) ≤ k := by omega
      clear hkp
      unfold str at c3 c4
      have HB : Has wr [(wr.heap.size, p.cells)] (wr.alloc (.cells p.cells.toArray 36)) := has1 _ _
      have HBG := Lib.hid (show Grows w (wr.alloc (.cells p.cells.toArray 36)) from HG.out.then ((Below.refl _ _).alloc (Nat.le_refl _) _))
      have HO2 := Lib.hid (HO.out.later (w' := wr.alloc (.cells p.cells.toArray 36)) ((Below.refl _ _).alloc (Nat.le_refl _) _))
      have HLen := Lib.hid (show (bgs (ps.take k) pre).length + 1 ≤ 2000000 by have := bgs_length (ps.take k) pre; rw [List.length_take] at this; omega)
      have HPF := Lib.hid (HF.out.2 p (List.mem_of_getElem? HK.out))
      unfold Pl.cells str at HB HBG HO2
      go_upto_region 6 with fail
      generalize hw2 : wr.alloc _ = w2 at *
      generalize hP : wr.heap.size = P at *
      have d0 := HB.fact (.head _) (i := 0) rfl
      have d1 := HB.fact (.head _) (i := 1) rfl
      have d2 := HB.fact (.head _) (i := 2) rfl
      have d3 := HB.fact (.head _) (i := 3) rfl
      have d4 := HB.fact (.head _) (i := 4) rfl
      have d5 := HB.fact (.head _) (i := 5) rfl
      have d6 := HB.fact (.head _) (i := 6) rfl
      simp only [] at d0 d1 d2 d3 d4 d5 d6
      clear c0 c1 c2 c3 c4 c5 c6
      by_cases h0 : p.nm = []
      · have z0 : (p.nm == []) = true := by rw [h0]; rfl
        have HN2 := Lib.hid (bgs_no (pre := pre) HK.out (by rw [h0]; exact beg_empty pre))
        clear h0
        go_wp2_with fail
        go_roundw
        case rel => exact ⟨k + 1, by omega, by go_num, by rw [HN2.out]; exact HO2.out, HBG.out⟩
        case measure => simp [RowKit.intOf]; omega
      · have z0 : (p.nm == []) = false := by simpa using h0
        have HC := Lib.hid (begins_any p.nm pre HPF.out h0 w2)
        obtain ⟨r, hr⟩ : ∃ r, beg pre p.nm = r := ⟨_, rfl⟩
        rw [hr] at HC
        clear h0
        cases r
        · have HN2 := Lib.hid (bgs_no (pre := pre) HK.out hr)
          clear hr
          go_wp2_with fail
          refine HC.out.mono ?_
          rintro e w3 ⟨rfl, g3⟩
          have G3 := Lib.hid g3
          clear g3
          go_wp2_with fail
          go_roundw
          case rel => exact ⟨k + 1, by omega, by go_num, by rw [HN2.out]; exact HO2.out.later G3.out, HBG.out.then G3.out⟩
          case measure => simp [RowKit.intOf]; omega
        · have HN2 := Lib.hid (bgs_yes (pre := pre) HK.out hr)
          clear hr
          go_wp2_with fail
          refine HC.out.mono ?_
          rintro e w3 ⟨rfl, g3⟩
          have HB3 := HB.later g3
          have HO3 := Lib.hid ((HO2.out.later g3).later (w' := w3.alloc (.cells p.cells.toArray 36)) ((Below.refl _ _).alloc (Nat.le_refl _) _))
          have HR1 := Lib.hid (row_one (T := tP) w3 36 p _ rfl)
          have GB := Lib.hid (show Grows w (w3.alloc (.cells p.cells.toArray 36)) from (HBG.out.then g3).then ((Below.refl _ _).alloc (Nat.le_refl _) _))
          clear d0 d1 d2 d3 d4 d5 d6 g3
          have d0 := HB3.fact (.head _) (i := 0) rfl
          have d1 := HB3.fact (.head _) (i := 1) rfl
          have d2 := HB3.fact (.head _) (i := 2) rfl
          have d3 := HB3.fact (.head _) (i := 3) rfl
          have d4 := HB3.fact (.head _) (i := 4) rfl
          have d5 := HB3.fact (.head _) (i := 5) rfl
          have d6 := HB3.fact (.head _) (i := 6) rfl
          simp only [] at d0 d1 d2 d3 d4 d5 d6
          clear HB HB3
          go_wp2_with (at_builtin; refine wpList_append tP_ok rfl _ _ rfl rfl HO3.out rfl HR1.out ?_ ?_ ?_)
          · have := HLen.out; simp only [List.length_cons, List.length_nil]; omega
          · have := GB.out.size; exact this
          intro v' w' hO6 hG3 _
          have hG4 := grow_append GB.out HO3.out (Nat.le_refl _) hG3
          have HO6 := Lib.hid hO6
          clear hO6 hG3
          go_wp2_with fail
          go_roundw
          case rel => exact ⟨k + 1, by omega, by go_num, by rw [HN2.out]; exact HO6.out, hG4⟩
          case measure => simp [RowKit.intOf]; omega
    · obtain rfl : k = n := by omega
      have HX := Lib.hid (spl_of (ps := bgs ps pre) (fun x hx => HF.out.2 x (List.mem_filter.1 hx).1))
      have hqs := HX.out
      obtain ⟨qs, hqs⟩ := hqs
      have HQ := Lib.hid hqs
      have HTk : ps.take k = ps := List.take_of_length_le (by rw [HN.out]; exact Nat.le_refl _)
      rw [HTk, ← hqs] at HO
      have hql : qs.length ≤ 100000 := by
        have h1 := bgs_length ps pre
        rw [← hqs, List.length_map, HN.out] at h1; omega
      have HS := Lib.hid (sortp_any wr (own_tQ HO.out) HG.out.size hql)
      have b1 : ¬ ((k : Int) < k) := by omega
      clear HX hqs HTk HO
      go_wp2_with fail
      refine HS.out.mono ?_
      rintro e w4 ⟨rfl, rs, hOr, hP, hS, hB⟩
      have HR := Lib.hid (own_tP hOr).row
      have HFd := Lib.hid (found_of HQ.out hP hS)
      have hrl : rs.length ≤ 100000 := by rw [hP.length_eq]; exact hql
      have HG4 := Lib.hid (show Grows w w4 from ⟨hB.os.trans HG.out.os, hB.tape.trans HG.out.tape, hB.output.trans HG.out.output, Nat.le_trans HG.out.size hB.size, fun j hj => (hB.block j hj).trans (HG.out.block j hj)⟩)
      clear hOr hP hS hB HS HG hql HQ
      obtain ⟨a, m, c, rfl, hm, hd1, hd2, hR⟩ := HR.out.form
      have HR := Lib.hid hR
      rw [List.length_map] at hm
      have HM := Lib.hid hm
      have hml : m ≤ 100000 := by omega
      clear hR hm hrl
      go_wp2_with fail
      go_loopw [9, 38] (fun u i wx => ∃ j : Nat, j ≤ m ∧ i = .int .i64 j ∧ Own tI w4.heap.size wx u ((rs.take j).map fun x => x.1.id) ∧ Grows w4 wx) (fun _ i _ => m - (RowKit.intOf i).toNat)
      case atStart => exact ⟨0, Nat.zero_le _, rfl, Own.nil _ _, Below.refl _ _⟩
      case round =>
        obtain ⟨j, hj, rfl, HO0, HG0⟩ := hrel
        have HO := Lib.hid HO0
        have HG := Lib.hid HG0
        clear HO0 HG0
        by_cases hlt : j < m
        · obtain ⟨p, hkp⟩ : ∃ p, rs[j]? = some p := ⟨_, List.getElem?_eq_getElem (by rw [HM.out]; exact hlt)⟩
          have hkp2 : (rs.map Subtype.val)[j]? = some p.1 := by rw [List.getElem?_map, hkp]; rfl
          obtain ⟨b, o, rfl, -⟩ := HR.out.spot tP_ok (by rw [List.length_map, HM.out]; omega)
          obtain ⟨c0, c1, c2, c3, c4, c5, c6⟩ := (HR.out.later HG.out).place hkp2
          have HT := Lib.hid (show (rs.take (j + 1)).map (fun x => x.1.id) = (rs.take j).map (fun x => x.1.id) ++ [p.1.id] by
            obtain ⟨q1, q2⟩ := List.getElem?_eq_some_iff.1 hkp
            rw [List.take_succ_eq_append_getElem q1, List.map_append, q2]; rfl)
          have HLen := Lib.hid (show ((rs.take j).map (fun x => x.1.id)).length + 1 ≤ 2000000 by rw [List.length_map, List.length_take]; omega)
          obtain ⟨ts, hts⟩ : ∃ ts, (rs.take j).map (fun x => x.1.id) = ts := ⟨_, rfl⟩
          rw [hts] at HT HLen HO
          clear hts
          obtain ⟨⟨id, px, py, pc, pn, pw, pd⟩, hpf⟩ := p
          simp only [] at c0 c1 c2 c3 c4 c5 c6 HT
          have b1 : (j : Int) < m := by omega
          have b2 : (0 : Int) ≤ j := by omega
          have HB : Has wr [(wr.heap.size, [.int .i64 id, .int .i64 px, .int .i64 py, str pc, str pn, .int .i64 pw, .int .i64 pd])] (wr.alloc (.cells #[.int .i64 id, .int .i64 px, .int .i64 py, str pc, str pn, .int .i64 pw, .int .i64 pd] 36)) := has1 _ _
          clear hkp hkp2
          unfold str at c3 c4 HB
          go_upto_region 14 with fail
          have GB0 := Lib.hid (show Grows w4 (wr.alloc (.cells #[.int .i64 id, .int .i64 px, .int .i64 py, .string ⟨pc.toArray⟩, .string ⟨pn.toArray⟩, .int .i64 pw, .int .i64 pd] 36)) from HG.out.then ((Below.refl _ _).alloc (Nat.le_refl _) _))
          have HO2 := Lib.hid (HO.out.later (w' := wr.alloc (.cells #[.int .i64 id, .int .i64 px, .int .i64 py, .string ⟨pc.toArray⟩, .string ⟨pn.toArray⟩, .int .i64 pw, .int .i64 pd] 36)) ((Below.refl _ _).alloc (Nat.le_refl _) _))
          generalize hw2 : wr.alloc _ = w2 at *
          generalize hP : wr.heap.size = P at *
          have d0 := HB.fact (.head _) (i := 0) rfl
          simp only [] at d0
          have HO3 := Lib.hid (HO2.out.later (w' := w2.alloc (.cells #[.int .i64 id] 3)) ((Below.refl _ _).alloc (Nat.le_refl _) _))
          have HR1 := Lib.hid (show Row tI (w2.alloc (.cells #[.int .i64 id] 3)) (.slice (some ⟨w2.heap.size, 0, none⟩) 1 1) [id] from row_one w2 3 id _ rfl)
          have GB := Lib.hid (show Grows w4 (w2.alloc (.cells #[.int .i64 id] 3)) from GB0.out.then ((Below.refl _ _).alloc (Nat.le_refl _) _))
          clear c0 c1 c2 c3 c4 c5 c6 HB hw2 hP HO2 GB0
          go_wp2_with (at_builtin; refine wpList_append tI_ok rfl _ _ rfl rfl HO3.out rfl HR1.out ?_ ?_ ?_)
          · have := HLen.out; omega
          · simpa using GB.out.size
          intro v' w' hO6 hG3 _
          have hG4 := grow_append GB.out HO3.out (Nat.le_refl _) hG3
          have HO6 := Lib.hid hO6
          clear hO6 hG3
          go_wp2_with fail
          go_roundw
          case rel => exact ⟨j + 1, by omega, by go_num, by rw [HT.out]; exact HO6.out, hG4⟩
          case measure => simp [RowKit.intOf]; omega
        · obtain rfl : j = m := by omega
          have HTk : rs.take j = rs := List.take_of_length_le (by rw [HM.out]; exact Nat.le_refl _)
          rw [HTk, HFd.out] at HO
          have HO5 := Lib.hid (HO.out.base HG4.out.size)
          have HG5 := Lib.hid (HG4.out.then HG.out)
          have b1 : ¬ ((j : Int) < j) := by omega
          clear HTk HO HG HG4
          go_wp2_with fail
          go_ret
          exact ⟨⟨_, rfl, HO5.out⟩, HG5.out⟩
end Go.Proofs.Ytiliommilcifeaa
