/- Named. -/
import Derived.Test.YtiliommilcifeaaA10
import Derived.Test.YtiliommilcifeaaSh
namespace Go.Proofs.Ytiliommilcifeaa
open Go.RowKit Go.Lib Go.Sort

theorem sorti_any {b : Nat} {v : Value} {xs : List Int} (w : World) (h : Own tI b w v xs) (hb : b ≤ w.heap.size) (hlen : xs.length ≤ 2000000) :
    Calls Try.prog 44 #[v] w fun e w' => e = .returned (.tuple #[]) ∧ Own tI b w' v (sortI xs) ∧ Below b w w' := by
  have hh : w.ownsRow b 3 1 v xs.length (xs.map (Value.int .i64)) := by
    have := h; unfold Own at this; rw [i_flat] at this; exact this
  by_cases hv : v = .slice none 0 0
  · subst hv
    have hg : xs = [] := by
      rcases hh.2 with ⟨-, h2⟩ | ⟨k, cap, cur, h1, -⟩
      · exact List.eq_nil_of_length_eq_zero h2
      · cases h1
    subst hg
    refine (Try.slices_Sort_int_none none 0 w).mono ?_
    rintro e w' ⟨rfl, rfl⟩
    exact ⟨rfl, by unfold sortI; rw [List.mergeSort_nil]; exact h, Below.refl _ _⟩
  · obtain ⟨g, cap, rfl, hg, hg2, hc, hm, hl, hH⟩ := holds_of_ownsRow hh hv
    have hs := Try.slices_Sort_int g 0 cap xs w hH hg2 (by omega)
    refine hs.mono ?_
    rintro e w' ⟨rfl, n, os, hw⟩
    have hsl : (sortI xs).length = xs.length := (sortI_perm xs).length_eq
    have o1 := ownsRow_putRow (q := n) (k := xs.length) (ys := sortI xs) hh hsl (Nat.le_refl _)
    rw [List.take_of_length_le (by omega)] at o1
    have g1 : Grows (putRow (Value.int .i64) (Sort.ahead w n) g 0 (sortI xs).toArray) w' := hw ▸ grows_grow _ _
    have o2 : Own tI b (putRow (Value.int .i64) (Sort.ahead w n) g 0 (sortI xs).toArray) (.slice (some ⟨g, 0, none⟩) xs.length cap) (sortI xs) := by
      unfold Own; rw [i_flat, hsl]; exact o1
    refine ⟨rfl, o2.later g1, ?_⟩
    have b1 : Below b w (putRow (Value.int .i64) (Sort.ahead w n) g 0 (sortI xs).toArray) := below_putRow (Below.refl b w) hg
    exact b1.trans (g1.mono (Nat.le_trans hb b1.size))

def namedI (fs ws : List Fc) (ps : List Pl) (nm : List UInt8) : List Int := if nm = [] then [] else sortI (numsF fs nm ++ numsF ws nm ++ numsP ps nm)
set_option maxRecDepth 100000 in
set_option maxHeartbeats 4000000 in
theorem named_any (vf vw vp : Value) (fs ws : List Fc) (ps : List Pl) (nm : List UInt8) (w : World) (hf : Row tF w vf fs) (hw : Row tW w vw ws) (hp : Row tP w vp ps) (hl : fs.length + ws.length + ps.length ≤ 1000000) :
    Calls Try.prog 23 #[.agg #[.slice none 0 0, vf, vw, vp], str nm] w fun e w' => (∃ u, e = .returned u ∧ Own tI w.heap.size w' u (namedI fs ws ps nm)) ∧ Grows w w' := by
  obtain ⟨af, nf, cf, rfl, -, -, -, hf⟩ := hf.form
  obtain ⟨aw, nw, cw, rfl, -, -, -, hw⟩ := hw.form
  obtain ⟨ap, np, cp, rfl, -, -, -, hp⟩ := hp.form
  unfold namedI
  unfold str
  by_cases h0 : nm = []
  · have z0 : (nm == []) = true := by rw [h0]; rfl
    rw [if_pos h0]
    have HG := Lib.hid (show Grows w (w.alloc (.cells #[.slice none 0 0, .slice af nf cf, .slice aw nw cw, .slice ap np cp] 32)) from (Below.refl _ _).alloc (Nat.le_refl _) _)
    clear h0 hf hw hp
    go_enter Try.func23, Try.ntmps23
    go_wp2_with fail
    go_ret
    exact ⟨⟨_, rfl, Own.nil _ _⟩, HG.out⟩
  · have z0 : (nm == []) = false := by simpa using h0
    rw [if_neg h0]
    obtain ⟨xs, hxs⟩ : ∃ xs, numsF fs nm ++ numsF ws nm ++ numsP ps nm = xs := ⟨_, rfl⟩
    rw [hxs]
    have HXS := Lib.hid hxs
    clear hxs
    have HG := (show Grows w (w.alloc (.cells #[.slice none 0 0, .slice af nf cf, .slice aw nw cw, .slice ap np cp] 32)) from (Below.refl _ _).alloc (Nat.le_refl _) _)
    have HM : Has w [(w.heap.size, [.slice none 0 0, .slice af nf cf, .slice aw nw cw, .slice ap np cp])] (w.alloc (.cells #[.slice none 0 0, .slice af nf cf, .slice aw nw cw, .slice ap np cp] 32)) := has1 _ _
    have HF := Lib.hid (hf.later HG)
    have HW := Lib.hid (hw.later HG)
    have HP := Lib.hid (hp.later HG)
    clear h0 hf hw hp
    go_enter Try.func23, Try.ntmps23
    go_upto_region 1 with fail
    generalize hw1 : w.alloc _ = w1 at *
    have hM := HM.lt _ (.head _)
    generalize hMs : w.heap.size = M at *
    have HC0 : Col w1 w1.heap.size nm [] (w1.alloc (.cells #[.string ⟨nm.toArray⟩, .slice none 0 0] 64)) := ⟨.slice none 0 0, has1 _ _, Own.nil _ _⟩
    go_upto_region 4 with fail
    generalize hw2 : w1.alloc _ = w2 at *
    generalize hC : w1.heap.size = C at *
    have m1 := (HM.later (show Grows w1 w2 from by obtain ⟨u, h1, -⟩ := HC0; exact h1.low)).fact (.head _) (i := 1) rfl
    simp only [] at m1
    have hlf := hl
    have V1 := Lib.hid (visit_face w1 C _ fs nm [] w2 HF.out HC0 (by simp only [List.length_nil]; omega))
    clear HC0 hw1 hw2
    have HMH := Lib.hid HM
    have HGH := Lib.hid HG
    clear HM HG
    go_wp2_with fail
    refine V1.out.mono ?_
    rintro e w3 ⟨rfl, HC3⟩
    clear V1 m1
    have m1 := (HMH.out.later (show Grows w1 w3 from by obtain ⟨u, h1, -⟩ := HC3; exact h1.low)).fact (.head _) (i := 2) rfl
    simp only [] at m1
    have V2 := Lib.hid (visit_way w1 C _ ws nm _ w3 HW.out HC3 (by have := numsF_length fs nm; simp only [List.length_append, List.length_nil]; omega))
    clear HC3
    go_wp2_with fail
    refine V2.out.mono ?_
    rintro e w4 ⟨rfl, HC4⟩
    clear V2 m1
    have m1 := (HMH.out.later (show Grows w1 w4 from by obtain ⟨u, h1, -⟩ := HC4; exact h1.low)).fact (.head _) (i := 3) rfl
    simp only [] at m1
    have V3 := Lib.hid (visit_place w1 C _ ps nm _ w4 HP.out HC4 (by have := numsF_length fs nm; have := numsF_length ws nm; simp only [List.length_append, List.length_nil]; omega))
    clear HC4
    go_wp2_with fail
    refine V3.out.mono ?_
    rintro e w5 ⟨rfl, HC5⟩
    clear V3 m1
    obtain ⟨u, H5, HO⟩ := HC5
    have hln : ([] ++ numsF fs nm ++ numsF ws nm ++ numsP ps nm).length ≤ 2000000 := by
      have := numsF_length fs nm; have := numsF_length ws nm; have := numsP_length ps nm
      simp only [List.length_append, List.length_nil]; omega
    rw [List.nil_append] at HO hln
    rw [HXS.out] at HO hln
    have c1 := H5.fact (.head _) (i := 1) rfl
    simp only [] at c1
    obtain ⟨a, c, rfl, -, -⟩ := HO.form
    have HS := Lib.hid (sorti_any w5 HO (H5.lt _ (.head _)) hln)
    have H5H := Lib.hid H5
    have hCl := H5.ge _ (.head _)
    clear H5 HO
    go_wp2_with fail
    refine HS.out.mono ?_
    rintro e w6 ⟨rfl, HO6, HB6⟩
    have H6 := H5H.out.below HB6
    have c2 := H6.fact (.head _) (i := 1) rfl
    simp only [] at c2 hCl
    have HOE := Lib.hid (HO6.base (b' := M) (by omega))
    have HGE := Lib.hid (HGH.out.then H6.low)
    clear HS H5H HB6 H6 HO6 c1
    go_wp2_with fail
    go_ret
    exact ⟨⟨_, rfl, hMs ▸ HOE.out⟩, HGE.out⟩
end Go.Proofs.Ytiliommilcifeaa
