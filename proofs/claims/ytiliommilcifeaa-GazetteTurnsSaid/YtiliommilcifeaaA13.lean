/- The places of a law: at most ten, with short names. -/
import Derived.Test.YtiliommilcifeaaA12
import Derived.Test.YtiliommilcifeaaFrame
namespace Go.Proofs.Ytiliommilcifeaa
open Go.RowKit Go.Lib Go.Sort

def Pl.cut (p : Pl) : Pl := { p with nm := p.nm.take 40 }
def cutPs (ps : List Pl) : List Pl := (ps.take 10).map Pl.cut
theorem cutPs_fine (ps : List Pl) : Fine (cutPs ps) := ⟨by unfold cutPs; rw [List.length_map, List.length_take]; omega, fun p hp => by
  unfold cutPs at hp
  obtain ⟨q, -, rfl⟩ := List.mem_map.1 hp
  unfold Fits Pl.cut
  simp only [List.length_take]; omega⟩
theorem cutPs_length (ps : List Pl) : (cutPs ps).length ≤ 10 := by unfold cutPs; rw [List.length_map, List.length_take]; omega
theorem cutPs_next {ps : List Pl} {k : Nat} {p : Pl} (h : ps[k]? = some p) (hk : k < 10) : cutPs (ps.take (k + 1)) = cutPs (ps.take k) ++ [p.cut] := by
  obtain ⟨h1, h2⟩ := List.getElem?_eq_some_iff.1 h
  unfold cutPs
  rw [List.take_take, List.take_take, Nat.min_eq_right (by omega), Nat.min_eq_right (by omega), List.take_succ_eq_append_getElem h1, List.map_append, h2]; rfl
theorem cutPs_end {ps : List Pl} {k : Nat} (hk : k ≤ 10) (h : k = 10 ∨ k = ps.length) : cutPs (ps.take k) = cutPs ps := by
  unfold cutPs
  rcases h with rfl | rfl
  · rw [List.take_take, Nat.min_self]
  · rw [List.take_length]
set_option maxRecDepth 100000 in
set_option maxHeartbeats 8000000 in
theorem places_any (v : Value) (ps : List Pl) (w : World) (hv : Row tP w v ps) (hg : ∀ p ∈ ps, p.good) :
    Calls Try.prog 19 #[v] w fun e w' => (∃ u, e = .returned u ∧ Own tP w.heap.size w' u (cutPs ps)) ∧ Grows w w' := by
  obtain ⟨a, n, c, rfl, hn, hc1, hc2, hv⟩ := hv.form
  have HV := Lib.hid hv
  have HN := Lib.hid hn
  have HF := Lib.hid hg
  clear hv hn hg
  go_enter Try.func19, Try.ntmps19
  go_wp2_with fail
  go_loopw [3, 4] (fun u i wx => ∃ k : Nat, k ≤ n ∧ k ≤ 10 ∧ i = .int .i64 k ∧ Own tP w.heap.size wx u (cutPs (ps.take k)) ∧ Grows w wx) (fun _ i _ => 10 - (RowKit.intOf i).toNat)
  case atStart => exact ⟨0, Nat.zero_le _, by omega, rfl, Own.nil _ _, Below.refl _ _⟩
  case round =>
    obtain ⟨k, hk, hk10, rfl, HO0, HG0⟩ := hrel
    have HO := Lib.hid HO0
    have HG := Lib.hid HG0
    clear HO0 HG0
    by_cases hlt : k < n
    · by_cases hlt2 : k < 10
      · obtain ⟨p, hkp⟩ : ∃ p, ps[k]? = some p := ⟨_, List.getElem?_eq_getElem (by rw [HN.out]; exact hlt)⟩
        obtain ⟨b, o, rfl, -⟩ := HV.out.spot tP_ok (by rw [HN.out]; omega)
        obtain ⟨c0, c1, c2, c3, c4, c5, c6⟩ := (HV.out.later HG.out).place hkp
        have HT := Lib.hid (cutPs_next hkp hlt2)
        have b1 : (k : Int) < n := by omega
        have b2 : (0 : Int) ≤ k := by omega
        have b3 : (k : Int) < 10 := by omega
        have HC := Lib.hid (fun w => cut_any p.nm (HF.out p (List.mem_of_getElem? hkp)).1 w)
        have HLen := Lib.hid (show (cutPs (ps.take k)).length + 1 ≤ 2000000 by have := cutPs_length (ps.take k); omega)
        generalize cutPs (ps.take k) = ts at *
        obtain ⟨id, px, py, pc, pn, pw, pd⟩ := p
        simp only [Pl.cut] at HT HC c0 c1 c2 c3 c4 c5 c6
        have HB : Has wr [(wr.heap.size, [.int .i64 id, .int .i64 px, .int .i64 py, str pc, str pn, .int .i64 pw, .int .i64 pd])] (wr.alloc (.cells #[.int .i64 id, .int .i64 px, .int .i64 py, str pc, str pn, .int .i64 pw, .int .i64 pd] 36)) := has1 _ _
        generalize pn.take 40 = pt at *
        clear hkp
        unfold str at HC c3 c4 HB
        have GB0 := Lib.hid (HG.out.then HB.low)
        have HO2 := Lib.hid (HO.out.later HB.low)
        go_upto_region 6 with fail
        generalize hw2 : wr.alloc _ = w2 at *
        generalize hP : wr.heap.size = P at *
        clear c0 c1 c2 c3 c4 c5 c6
        have d4 := HB.fact (.head _) (i := 4) rfl
        have f4 := HB.free (.head _) (i := 4) rfl
        simp only [] at d4 f4
        have HB2 := HB.set 4 (by simp) (.string ⟨pt.toArray⟩)
        simp only [List.set_cons_succ, List.set_cons_zero] at HB2
        have HO3 := Lib.hid (HO.out.later HB2.low)
        have HG3 := Lib.hid (HG.out.then HB2.low)
        have HBH := Lib.hid HB2
        clear HB HB2 hw2 hP GB0 HO2
        go_upto_region 7 with (go_at_call 10; refine (HC.out _).mono ?_; rintro e w3 ⟨rfl, rfl⟩)
        generalize w2.setCell _ _ = w3 at *
        clear d4 f4
        have d0 := HBH.out.fact (.head _) (i := 0) rfl
        have d1 := HBH.out.fact (.head _) (i := 1) rfl
        have d2 := HBH.out.fact (.head _) (i := 2) rfl
        have d3 := HBH.out.fact (.head _) (i := 3) rfl
        have d4 := HBH.out.fact (.head _) (i := 4) rfl
        have d5 := HBH.out.fact (.head _) (i := 5) rfl
        have d6 := HBH.out.fact (.head _) (i := 6) rfl
        simp only [] at d0 d1 d2 d3 d4 d5 d6
        have HO4 := Lib.hid (HO3.out.later (w' := w3.alloc (.cells #[.int .i64 id, .int .i64 px, .int .i64 py, .string ⟨pc.toArray⟩, .string ⟨pt.toArray⟩, .int .i64 pw, .int .i64 pd] 36)) ((Below.refl _ _).alloc (Nat.le_refl _) _))
        have HR1 := Lib.hid (show Row tP (w3.alloc (.cells #[.int .i64 id, .int .i64 px, .int .i64 py, .string ⟨pc.toArray⟩, .string ⟨pt.toArray⟩, .int .i64 pw, .int .i64 pd] 36)) (.slice (some ⟨w3.heap.size, 0, none⟩) 1 1) [⟨id, px, py, pc, pt, pw, pd⟩] from row_one w3 36 _ _ rfl)
        have GB := Lib.hid (show Grows w (w3.alloc (.cells #[.int .i64 id, .int .i64 px, .int .i64 py, .string ⟨pc.toArray⟩, .string ⟨pt.toArray⟩, .int .i64 pw, .int .i64 pd] 36)) from HG3.out.then ((Below.refl _ _).alloc (Nat.le_refl _) _))
        clear HBH HO3 HG3
        go_wp2_with (at_builtin; refine wpList_append tP_ok rfl _ _ rfl rfl HO4.out rfl HR1.out ?_ ?_ ?_)
        · simpa using HLen.out
        · simpa using GB.out.size
        intro v' w' hO6 hG3 _
        have hG4 := grow_append GB.out HO4.out (Nat.le_refl _) hG3
        have HO6 := Lib.hid hO6
        clear hO6 hG3
        go_wp2_with fail
        go_roundw
        case rel => exact ⟨k + 1, by omega, by omega, by go_num, by rw [HT.out]; exact HO6.out, hG4⟩
        case measure => simp [RowKit.intOf]; omega
      · obtain rfl : k = 10 := by omega
        have b1 : (10 : Int) < n := by omega
        have HE := Lib.hid (cutPs_end (ps := ps) hk10 (.inl rfl))
        rw [HE.out] at HO
        go_wp2_with fail
        go_ret
        exact ⟨⟨_, rfl, HO.out⟩, HG.out⟩
    · obtain rfl : k = n := by omega
      have b1 : ¬ ((k : Int) < k) := by omega
      have HE := Lib.hid (cutPs_end (ps := ps) hk10 (.inr HN.out.symm))
      rw [HE.out] at HO
      go_wp2_with fail
      go_ret
      exact ⟨⟨_, rfl, HO.out⟩, HG.out⟩
end Go.Proofs.Ytiliommilcifeaa
