/- Gathering the groups. -/
import Derived.Test.YtoaldbjcpfkcjaaGreatcNc
namespace Go.Proofs.YtoaldbjcpfkcjaaGreat
open Go.RowKit Go.Lib

theorem OwnG.form2 {b : Nat} {w : World} {v : Value} {gs : List (List Int)} (h : OwnG b w v gs) : ∃ a m c, v = .slice a m c ∧ gs.length = m ∧ m ≤ c ∧ (c : Int) ≤ 9223372036854775807 ∧ OwnG b w (.slice a m c) gs := by
 obtain ⟨a, c, rfl, h1, h2⟩ := h.form
 exact ⟨a, _, c, rfl, rfl, h1, h2, h⟩
theorem ownN_lit {b : Nat} (w : World) (x : Int) (hb : b ≤ w.heap.size) (o : Obj) : OwnN b ((w.alloc (.cells #[.int .i64 x] 3)).alloc o) (.slice (some ⟨w.heap.size, 0, none⟩) 1 1) [x] :=
 (World.ownsRow_lit w #[.int .i64 x] 1 hb (by unfold maxLen; omega) rfl).alloc o
theorem cell_new2 (w : World) (o : Obj) (u : Value) (T : TypeId) : ((w.alloc o).alloc (.cells #[u] T)).cell? ⟨w.heap.size + 1, 0, none⟩ = some u := by
 rw [show w.heap.size + 1 = (w.alloc o).heap.size from (size_alloc w o).symm, World.cell?_alloc_new]; rfl
theorem cell_new1 (w : World) (u : Value) (T : TypeId) : (w.alloc (.cells #[u] T)).cell? ⟨w.heap.size, 0, none⟩ = some u := by
 rw [World.cell?_alloc_new]; rfl
theorem gat_xs {ws : List Wy} {k : Nat} {xs : List Int} (h : xs ∈ gat ws k) : xs.length ≤ k := by
 unfold gat cls at h
 obtain ⟨b, hb, rfl⟩ := List.mem_map.1 h
 obtain ⟨i, -, rfl⟩ := List.mem_map.1 hb
 have := List.length_filter_le (fun q => CC ws i q) (List.range k)
 simpa using this
theorem mod_last {gs : List (List Int)} {n : Nat} {x : Int} (h : gs.length = n) : (gs ++ [[]]).modify n (· ++ [x]) = gs ++ [[x]] := by
 apply List.ext_getElem?
 intro m
 rw [List.getElem?_modify]
 by_cases hm : m < gs.length
 ·rw [List.getElem?_append_left hm, List.getElem?_append_left hm]
  have : ¬ n = m := by omega
  simp [this]
 ·rw [List.getElem?_append_right (by omega), List.getElem?_append_right (by omega)]
  by_cases e : n = m
  ·subst e; simp [h]
  ·have : m - gs.length ≠ 0 := by omega
   obtain ⟨q, hq⟩ : ∃ q, m - gs.length = q + 1 := ⟨m - gs.length - 1, by omega⟩
   simp [hq, e]
theorem below_app {w W W' : World} {b : Nat} {v : Value} {gs : List (List Int)} (g : Below w.heap.size w W) (ho : OwnG b W v gs) (hb : w.heap.size ≤ b) (hg : W.grownBy W' v.ownBlock) : Below w.heap.size w W' :=
 Below.grown g hg g.size (fun _ e => Nat.le_trans hb (ho.lt e).1)
/-- What a round of gathering leaves. -/
def GaR (w : World) (ws : List Wy) (R : Key → Key) (k : Nat) (vg : Value) (wr : World) : Prop :=
 ∃ num, OwnG (w.heap.size + 1) wr vg (gat ws k) ∧ MapV wr w.heap.size k (FN num) ∧ NumOk ws R k num ∧ Below w.heap.size w wr ∧ w.heap.size + 1 ≤ wr.heap.size
theorem OwnG.form3 {b : Nat} {w : World} {a : Option Addr} {m c : Nat} {gs : List (List Int)} (h : OwnG b w (.slice a m c) gs) (hn : 0 < gs.length) : ∃ g us, a = some ⟨g, 0, none⟩ ∧ b ≤ g ∧ w.ownsRow b 22 1 (.slice (some ⟨g, 0, none⟩) m c) m us ∧ Inner b w us gs := by
 obtain ⟨us, h1, h2⟩ := h
 have hh := h1
 rcases h1.2 with ⟨-, h3⟩ | ⟨k, cap, cur, q, h3, -⟩
 ·omega
 ·injection q with q1 q2 q3
  subst q1 q2 q3
  exact ⟨k, us, rfl, h3, hh, h2⟩
theorem app_world {w W W8 w9 : World} {b g n c j : Nat} {us : List Value} {gs : List (List Int)} {u v9 : Value} {xs : List Int} {x : Int} (hh : W.ownsRow b 22 1 (.slice (some ⟨g, 0, none⟩) n c) n us) (hI : Inner b W us gs) (hn : gs.length = n)
  (hu : us[j]? = some u) (hx : gs[j]? = some xs) (g8 : Grows W W8) (o9 : OwnN b w9 v9 (xs ++ [x])) (g9 : W8.grownBy w9 u.ownBlock) (e9 : v9.ownBlock = u.ownBlock ∨ v9.ownBlock = some W8.heap.size) (hb : w.heap.size < b) (hB : Below w.heap.size w W) :
  OwnG b (w9.setCell ⟨g, j, none⟩ v9) (.slice (some ⟨g, 0, none⟩) n c) (gs.modify j (· ++ [x])) ∧ Below w.heap.size w (w9.setCell ⟨g, j, none⟩ v9) ∧ (∀ bn m f, bn < b → MapV W bn m f → MapV (w9.setCell ⟨g, j, none⟩ v9) bn m f) ∧ W.heap.size ≤ (w9.setCell ⟨g, j, none⟩ v9).heap.size := by
 have hh8 : W8.ownsRow b 22 1 (.slice (some ⟨g, 0, none⟩) n c) n us := ownsRow_same hh fun k e => g8.block k (World.ownsRow.lt hh k e).2
 have hI8 := hI.later g8
 have hO := hI8.own j u xs hu hx
 have hgb := World.ownsRow.lt hh g rfl
 obtain ⟨r1, r2⟩ := inner_app hh8 hI8 hu hx o9 g9 e9
 have hB8 : Below w.heap.size w W8 := hB.trans (g8.mono hB.size)
 have hB9 : Below w.heap.size w w9 := Below.grown hB8 g9 hB8.size (fun k e => by have := (World.ownsRow.lt hO k e).1; omega)
 refine ⟨⟨_, by rw [List.length_modify, hn]; exact r1, r2⟩, hB9.setCell (by simp only; omega) _, fun bn m f hbn hM => ?_, ?_⟩
 ·refine MapV.setCell (MapV.kept (hM.later g8) g9 fun e => ?_) (by simp only; omega) _
  have := (World.ownsRow.lt hO bn e.symm).1
  omega
 ·rw [World.size_setCell]; exact Nat.le_trans g8.size g9.size
theorem round_not {w w2 W w7 : World} {ws : List Wy} {R : Key → Key} {k : Nat} {vg v7 : Value} {num : Key → Option Nat} {t : Wy} (hB : Below w.heap.size w w2) (hG : OwnG (w.heap.size + 1) w2 vg (gat ws k)) (hM : MapV w2 w.heap.size k (FN num)) (hN : NumOk ws R k num)
  (ht : ws[k]? = some t) (hgo : goes t = false) (hs : w.heap.size + 1 ≤ w2.heap.size) (o7 : OwnG (w.heap.size + 1) w7 v7 (gat ws k ++ [[t.id]])) (gW : Grows w2 W) (g7 : W.grownBy w7 vg.ownBlock) : GaR w ws R (k + 1) v7 w7 := by
 obtain ⟨hf, hN'⟩ := num_not hN (lab_not ht hgo)
 have hGW := hG.later gW
 refine ⟨num, by rw [gat_new ht hf]; exact o7, ((hM.later gW).kept g7 (fun e => ?_)).mono (by omega), hN', below_app (hB.trans (gW.mono hB.size)) hGW (by omega) g7, Nat.le_trans (Nat.le_trans hs gW.size) g7.size⟩
 have := (hGW.lt e.symm).1
 omega
set_option maxRecDepth 100000 in
set_option maxHeartbeats 4000000 in
theorem gather_any {F : Forest} {R : Key → Key} {ws : List Wy} (hF : FOk F R (edges ws)) (hFK : FK F) (hkn : ∀ i a, lab ws i = some a → F a ≠ none) (hK : ∀ t ∈ ws, WK t) (v : Value) (w : World) (bm n : Nat) (hv : RowW w v ws) (M : MapV w bm n (FV F)) (hl : ws.length ≤ 1000) :
  Calls Tryz.prog 38 #[v, .func (.func 39) #[.map (some bm)] #[]] w fun e w' => ∃ v', e = .returned v' ∧ OwnG w.heap.size w' v' (gat ws ws.length) ∧ Below w.heap.size w w' := by
 have hv0 := hv
 obtain ⟨a, cap, rfl, hc1, hc2, -⟩ := hv0
 obtain ⟨N, hN⟩ : ∃ N, ws.length = N := ⟨_, rfl⟩
 rw [hN] at hv hc1 hl ⊢
 have HV := Lib.hid hv
 have HN := Lib.hid hN
 have HF := Lib.hid hF
 have HFK := Lib.hid hFK
 have HKN := Lib.hid hkn
 have HK := Lib.hid hK
 have HM := Lib.hid M
 have hmm := @run_makeMap Tryz.prog
 have g0 : Grows w (w.alloc (.map #[] 0)) := (Below.refl _ w).alloc (Nat.le_refl _) _
 have MN := MapV.made w
 have hsz : (w.alloc (.map #[] 0)).heap.size = w.heap.size + 1 := size_alloc w _
 clear hv hN hF hFK hkn hK M
 go_enter Tryz.func38, Tryz.ntmps38
 go_upto_region 3 with fail
 generalize w.alloc (.map #[] 0) = w0 at *
 clear hmm
 have HSZ := Lib.hid hsz
 have HI0 := Lib.hid (show OwnG (w.heap.size + 1) w0 (.slice none 0 0) (gat ws 0) ∧ MapV w0 w.heap.size 0 (FN fun _ => none) ∧ NumOk ws R 0 (fun _ => none) ∧ Below w.heap.size w w0 ∧ w.heap.size + 1 ≤ w0.heap.size from ⟨by rw [gat_zero]; exact OwnG.nil _ _, MN, num_start ws R, g0, by omega⟩)
 clear MN g0 hsz
 go_wp2_with fail
 go_loopw [5, 17] (fun vg i wr => ∃ k : Nat, k ≤ N ∧ i = .int .i64 k ∧ Hid (GaR w ws R k vg wr)) (fun _ i _ => N - (RowKit.intOf i).toNat)
 case atStart => exact ⟨0, Nat.zero_le _, rfl, Lib.hid ⟨_, HI0.out⟩⟩
 case round =>
  obtain ⟨k, hk, rfl, HI⟩ := hrel
  by_cases hlt : k < N
  ·have bb1 : (k : Int) < N := by omega
   have bb2 : (0 : Int) ≤ k := by omega
   obtain ⟨num, hG, hM, hNum, hB, hsz⟩ := HI.out
   have hR := HV.out.later hB
   obtain ⟨bb, oo, rfl, hq0⟩ := hR.spot (by rw [HN.out]; omega)
   obtain ⟨t, ht⟩ : ∃ t, ws[k]? = some t := ⟨_, List.getElem?_eq_getElem (by rw [HN.out]; exact hlt)⟩
   have hWK := Lib.hid (HK.out t (List.mem_of_getElem? ht))
   obtain ⟨u, hu, c0, c1, c2, c3, c4, c5, c6, c7⟩ := hq0 k t ht
   obtain ⟨id, ln, lv, cl, nm, st, wt, ds⟩ := t
   simp only at hu c0 c1 c2 c3 c4 c5 c6 c7
   obtain ⟨ua, un, uc, rfl, hun, hu⟩ := hu.form
   obtain ⟨va, gn, vc, rfl, hgn, hvc1, hvc2, hG⟩ := hG.form2
   have hgl := gat_le ws k
   rw [hgn] at hgl
   have HGN := Lib.hid hgn
   have HU := Lib.hid hu
   have HT := Lib.hid ht
   have HG := Lib.hid hG
   have HM2 := Lib.hid hM
   have HNUM := Lib.hid hNum
   have C1 := (Has.nil hB).push [.int .i64 id, .slice ua un uc, .int .i64 lv, .string cl, .string nm, .bool st, .int .i64 wt, .int .i64 ds] 44
   have G1 : Grows wr (wr.alloc (.cells #[.int .i64 id, .slice ua un uc, .int .i64 lv, .string cl, .string nm, .bool st, .int .i64 wt, .int .i64 ds] 44)) := (Below.refl _ wr).alloc (Nat.le_refl _) _
   have HQ1 := Lib.hid (heap_alloc_new wr (.cells #[.int .i64 id, .slice ua un uc, .int .i64 lv, .string cl, .string nm, .bool st, .int .i64 wt, .int .i64 ds] 44))
   have HB := Lib.hid hB
   clear hq0 hR hu ht hG hM hNum hB hun hgn HI
   go_upto_region 6 with fail
   clear c0 c1 c2 c3 c4 c5 c6 c7
   change Has w _ (wr.alloc (.cells #[.int .i64 id, .slice ua un uc, .int .i64 lv, .string cl, .string nm, .bool st, .int .i64 wt, .int .i64 ds] 44)) at C1
   generalize wr.alloc (.cells #[.int .i64 id, .slice ua un uc, .int .i64 lv, .string cl, .string nm, .bool st, .int .i64 wt, .int .i64 ds] 44) = w1 at *
   have hP : w.heap.size + 1 ≤ wr.heap.size := hsz
   generalize wr.heap.size = P at *
   have k0 := C1.fact (.head _) (i := 0) rfl
   have k1 := C1.fact (.head _) (i := 1) rfl
   have k2 := C1.fact (.head _) (i := 2) rfl
   have k3 := C1.fact (.head _) (i := 3) rfl
   have k4 := C1.fact (.head _) (i := 4) rfl
   have k5 := C1.fact (.head _) (i := 5) rfl
   have k6 := C1.fact (.head _) (i := 6) rfl
   have k7 := C1.fact (.head _) (i := 7) rfl
   cases hgo : goes ⟨id, ln, lv, cl, nm, st, wt, ds⟩
   ·have HGO := Lib.hid hgo
    clear hgo
    have HC := Lib.hid (stopping_is ⟨id, ln, lv, cl, nm, st, wt, ds⟩ (.slice ua un uc) false HGO.out w1 (HU.out.later G1))
    go_wp2_with fail
    refine HC.out.mono ?_
    rintro e w2 ⟨rfl, g2⟩
    have C2 := C1.later g2
    clear k0 k1 k2 k3 k4 k5 k6 k7
    clear C1 HC
    have k0 := C2.fact (.head _) (i := 0) rfl
    have G2 := G1.then g2
    clear G1 g2
    have HG2 := Lib.hid (HG.out.later G2)
    have HM3 := Lib.hid (HM2.out.later G2)
    have hs2 : P ≤ w2.heap.size := Nat.le_of_lt C2.lt0
    have HC2 := Lib.hid C2.low
    clear HG HM2 C2
    go_wp2_with (at_builtin; refine wpList_append_list (w0 := w2) (b := w.heap.size + 1) (u := .slice (some ⟨w2.heap.size, 0, none⟩) 1 1) (xs := [id]) (bx := w2.heap.size + 1) (c := 1) rfl _ _ rfl rfl HG2.out (((Below.refl _ w2).alloc (Nat.le_refl _) _).alloc (by simp) _) rfl (ownN_lit w2 id (by omega) _) (fun k e => by cases e; exact Nat.le_refl _) rfl (cell_new2 w2 _ _ _) (by rw [HGN.out]; omega) (by simp only [World.size_alloc]; omega) ?_)
    intro v7 w7 o7 g7
    clear k0
    have HR := Lib.hid (round_not HC2.out HG2.out HM3.out HNUM.out HT.out HGO.out (by omega) o7 (((Below.refl _ w2).alloc (Nat.le_refl _) _).alloc (by simp) _) g7)
    clear o7 g7
    go_wp2_with fail
    go_roundw
    case rel => exact ⟨k + 1, by omega, by go_num, HR.out⟩
    case measure => simp [RowKit.intOf]; omega
   ·have HGO := Lib.hid hgo
    clear hgo
    have HC := Lib.hid (stopping_is ⟨id, ln, lv, cl, nm, st, wt, ds⟩ (.slice ua un uc) true HGO.out w1 (HU.out.later G1))
    go_wp2_with fail
    refine HC.out.mono ?_
    rintro e w2 ⟨rfl, g2⟩
    have C2 := C1.later g2
    clear k0 k1 k2 k3 k4 k5 k6 k7
    clear C1 HC
    have G2 := G1.then g2
    have g2' := g2
    clear G1 g2
    have k0 := C2.fact (.head _) (i := 0) rfl
    have k1 := C2.fact (.head _) (i := 1) rfl
    have k2 := C2.fact (.head _) (i := 2) rfl
    have k3 := C2.fact (.head _) (i := 3) rfl
    have k4 := C2.fact (.head _) (i := 4) rfl
    have k5 := C2.fact (.head _) (i := 5) rfl
    have k6 := C2.fact (.head _) (i := 6) rfl
    have k7 := C2.fact (.head _) (i := 7) rfl
    obtain ⟨⟨p0, p1, p2⟩, hp⟩ : ∃ q, fstK ⟨id, ln, lv, cl, nm, st, wt, ds⟩ = q := ⟨_, rfl⟩
    obtain ⟨⟨l0, l1, l2⟩, hlst⟩ : ∃ q, lstK ⟨id, ln, lv, cl, nm, st, wt, ds⟩ = q := ⟨_, rfl⟩
    have HS := Lib.hid (stops_at ⟨id, ln, lv, cl, nm, st, wt, ds⟩ (.slice ua un uc) p0 p1 p2 l0 l1 l2 hp hlst w2 (HU.out.later G2))
    have HP := Lib.hid hp
    clear hp hlst
    go_wp2_with fail
    refine HS.out.mono ?_
    rintro e w3 ⟨rfl, g3⟩
    have C3 := C2.later g3
    clear k0 k1 k2 k3 k4 k5 k6 k7
    clear C2 HS
    have G3 := G2.then g3
    have g3' := g3
    clear G2 g3
    have C4 := (C3.push [.int .i64 p0, .int .i64 p1, .int .i64 p2] 39).push [.int .i64 l0, .int .i64 l1, .int .i64 l2] 39
    simp only [size_alloc] at C4
    have G4 : Grows w3 ((w3.alloc (.cells #[.int .i64 p0, .int .i64 p1, .int .i64 p2] 39)).alloc (.cells #[.int .i64 l0, .int .i64 l1, .int .i64 l2] 39)) := ((Below.refl _ w3).alloc (Nat.le_refl _) _).alloc (by simp) _
    go_upto_region 9 with fail
    change Has w _ ((w3.alloc (.cells #[.int .i64 p0, .int .i64 p1, .int .i64 p2] 39)).alloc (.cells #[.int .i64 l0, .int .i64 l1, .int .i64 l2] 39)) at C4
    generalize (w3.alloc (.cells #[.int .i64 p0, .int .i64 p1, .int .i64 p2] 39)).alloc (.cells #[.int .i64 l0, .int .i64 l1, .int .i64 l2] 39) = w4 at *
    have hs3 : P < w3.heap.size := C3.lt0
    generalize w3.heap.size = S1 at *
    clear C3
    have q0 := C4.tail.fact (.head _) (i := 0) rfl
    have q1 := C4.tail.fact (.head _) (i := 1) rfl
    have q2 := C4.tail.fact (.head _) (i := 2) rfl
    have hkn := HKN.out k _ (lab_goes HT.out HGO.out)
    rw [HP.out] at hkn
    have hRO := HF.out.root _ hkn
    obtain ⟨⟨r0, r1, r2⟩, hr⟩ : ∃ r, R (p0, p1, p2) = r := ⟨_, rfl⟩
    rw [hr] at hRO
    obtain ⟨rn, hrn⟩ := hRO.root
    have HRK := Lib.hid (HFK.out _ _ _ hrn)
    have hX := root_any hRO HFK.out (by have := hWK.out.1; rw [HP.out] at this; exact this) (HM.out.later C4.low)
    unfold kv at hX
    simp only at hX
    have HX := Lib.hid hX
    have HRR := Lib.hid (show R (fstK ⟨id, ln, lv, cl, nm, st, wt, ds⟩) = (r0, r1, r2) from by rw [HP.out, hr])
    clear hX hRO hrn hr hkn
    go_wp2_with fail
    refine HX.out.mono ?_
    rintro e w5 ⟨rfl, g5⟩
    have C5 := C4.later g5
    have G5 := (G3.then G4).then g5
    have GQ5 := Grows.then (Grows.then (Grows.then g2' g3') G4) g5
    clear q0 q1 q2 HX C4 G3 G4 g5 g2' g3'
    have C6 := C5.push [.int .i64 r0, .int .i64 r1, .int .i64 r2] 39
    have G6 : Grows w5 (w5.alloc (.cells #[.int .i64 r0, .int .i64 r1, .int .i64 r2] 39)) := (Below.refl _ w5).alloc (Nat.le_refl _) _
    go_upto_region 10 with fail
    change Has w _ (w5.alloc (.cells #[.int .i64 r0, .int .i64 r1, .int .i64 r2] 39)) at C6
    generalize w5.alloc (.cells #[.int .i64 r0, .int .i64 r1, .int .i64 r2] 39) = w6 at *
    have hs5 : S1 + 1 < w5.heap.size := C5.lt0
    generalize w5.heap.size = S3 at *
    clear C5
    have GG := G5.then G6
    have GQ := Grows.then GQ5 G6
    clear G5 G6 GQ5
    have HG6 := Lib.hid (HG.out.later GG)
    have HM6 := Lib.hid (HM2.out.later GG)
    have HBT := Lib.hid C6.low
    have hs6 : P < w6.heap.size := C6.tail.tail.tail.lt0
    have c60 := C6.fact (.head _) (i := 0) rfl
    have c61 := C6.fact (.head _) (i := 1) rfl
    have c62 := C6.fact (.head _) (i := 2) rfl
    have HPB := Lib.hid hP
    have HQ6 := Lib.hid (heap_grows GQ HQ1.out)
    clear HG HM2 GG GQ
    cases hnum : num (r0, r1, r2) with
    | some j =>
     have hnum' : num (R (fstK ⟨id, ln, lv, cl, nm, st, wt, ds⟩)) = some j := by rw [HRR.out]; exact hnum
     have hjl := (num_known HF.out HKN.out HNUM.out (lab_goes HT.out HGO.out) (by rw [HRR.out]; exact HRK.out) hnum')
     obtain ⟨⟨ir, hir, hic⟩, hN2⟩ := hjl
     have hjn : j < gn := by
      rw [← HGN.out, gat_length, cls_length]
      exact (List.getElem?_eq_some_iff.1 hir).1
     have hlk := HM6.out.look_ok und96 (zero3 w6) HRK.out
     rw [show FN num (r0, r1, r2) = some (.int .i64 (j : Int)) from by unfold FN; rw [hnum]; rfl] at hlk
     replace hlk : (Instr.lookup 96 (.map (some w.heap.size)) (.agg #[.int .i64 r0, .int .i64 r1, .int .i64 r2]) true).run Tryz.prog w6 = .ok (.tuple #[.int .i64 (j : Int), .bool true]) w6 := hlk
     have HPOST := Lib.hid (fun (v' : Value) (w' : World) (h : OwnG (w.heap.size + 1) w' v' ((gat ws k).modify j (· ++ [id])) ∧ Below w.heap.size w w' ∧ (∀ bn m f, bn < w.heap.size + 1 → MapV w6 bn m f → MapV w' bn m f) ∧ w6.heap.size ≤ w'.heap.size) =>
      show GaR w ws R (k + 1) v' w' from ⟨num, by rw [gat_old HT.out hir hic]; exact h.1, (h.2.2.1 _ _ _ (by omega) HM6.out).mono (by omega), hN2, h.2.1, by have := h.2.2.2; omega⟩)
     have hgm := HGN.out
     have HGT := HG6
     have HXB := Lib.hid (fun (xs : List Int) (h : (gat ws k)[j]? = some xs) => show xs.length ≤ 1000 from Nat.le_trans (gat_xs (List.mem_of_getElem? h)) (by omega))
     have HP44 := HQ6
     clear hnum hnum' hir hic hN2 HG6
     go_upto_region 15 with fail
     clear hlk c60 c61 c62
     obtain ⟨g, us, rfl, hbg, hh, hI⟩ := HGT.out.form3 (by rw [hgm]; omega)
     obtain ⟨xs, hxs⟩ : ∃ xs, (gat ws k)[j]? = some xs := ⟨_, List.getElem?_eq_getElem (by rw [hgm]; omega)⟩
     obtain ⟨uq, huq⟩ : ∃ u, us[j]? = some u := ⟨_, List.getElem?_eq_getElem (by rw [hI.len, hgm]; omega)⟩
     have hOx := hI.own _ uq xs huq hxs
     have s0 : w6.drew.cell? ⟨g, j, none⟩ = some uq := by
      have := World.ownsRow.cells hh (g := g) rfl _ uq huq
      rw [Go.WideShapes.add_plain, Nat.zero_add] at this
      exact this
     have s1 : w6.drew.cell? ⟨P, 0, none⟩ = some (.int .i64 id) := by
      have h44 : w6.drew.heap[P]? = some (.cells #[.int .i64 id, .slice ua un uc, .int .i64 lv, .string cl, .string nm, .bool st, .int .i64 wt, .int .i64 ds] 44) := HP44.out
      rw [cell_of_row _ _ 0 #[.int .i64 id, .slice ua un uc, .int .i64 lv, .string cl, .string nm, .bool st, .int .i64 wt, .int .i64 ds] 44 (0, 0) h44]; rfl
     have h44 : w6.drew.heap[P]? = some (.cells #[.int .i64 id, .slice ua un uc, .int .i64 lv, .string cl, .string nm, .bool st, .int .i64 wt, .int .i64 ds] 44) := HP44.out
     have gd : Grows w6 w6.drew := (Below.refl _ w6).drew
     have zb1 : (j : Int) < gn := by omega
     have zb2 : (0 : Int) ≤ j := by omega
     have zb3 : j < gn := by omega
     have zf : ∀ W, Grows w6 W → W.frozen? ⟨g, j, none⟩ = false := fun W gW => World.ownsRow.frozenAt (ownsRow_same hh fun k e => gW.block k (World.ownsRow.lt hh k e).2) _
     have hglt : g < w6.heap.size := (World.ownsRow.lt hh g rfl).2
     have HH := Lib.hid hh
     have HI := Lib.hid hI
     have HXS := Lib.hid hxs
     have HUQ := Lib.hid huq
     have HOX := Lib.hid hOx
     have HXL := Lib.hid (HXB.out xs hxs)
     have HZF := Lib.hid zf
     clear hh hI hxs huq hOx zf HGT
     refine plain_Z 11 (fun w' => w'.cell? ⟨g, j, none⟩ = some uq ∧ w'.cell? ⟨P, 0, none⟩ = some (.int .i64 id)) (by kernel_rfl) ?_
     have hHeld : (fun w' => w'.cell? ⟨g, j, none⟩ = some uq ∧ w'.cell? ⟨P, 0, none⟩ = some (.int .i64 id)) w6.drew := ⟨s0, s1⟩
     generalize w6.drew = wu at *
     refine wpAnyZ_take (i := 0) (oi := ⟨some 54, .move (.tmp 5), 34, _, _, none⟩) (oz := ⟨none, .store 22 (.tmp 64) (.tmp 63), 0, _, _, none⟩) (v := .slice (some ⟨g, 0, none⟩) gn vc) rfl rfl (by kernel_rfl) (fun _ _ _ h => h) (by rfl) (by assumption) (fun wS hSw => ?_) ?_
     ·(try dsimp only at hSw); go_simp
     simp only [Act.put, pA, pB, pC]
     refine wpAnyZ_take (i := 1) (oi := ⟨some 55, .move (.tmp 12), 3, _, _, none⟩) (oz := ⟨none, .store 22 (.tmp 64) (.tmp 63), 0, _, _, none⟩) (v := .int .i64 j) rfl rfl (by kernel_rfl) (fun _ _ _ h => h) (by rfl) (by assumption) (fun wS hSw => ?_) ?_
     ·(try dsimp only at hSw); go_simp
     simp only [Act.put, pA, pB, pC]
     refine wpAnyZ_take (i := 2) (oi := ⟨some 56, .move (.tmp 5), 34, _, _, none⟩) (oz := ⟨none, .store 22 (.tmp 64) (.tmp 63), 0, _, _, none⟩) (v := .slice (some ⟨g, 0, none⟩) gn vc) rfl rfl (by kernel_rfl) (fun _ _ _ h => h) (by rfl) (by assumption) (fun wS hSw => ?_) ?_
     ·(try dsimp only at hSw); go_simp
     simp only [Act.put, pA, pB, pC]
     refine wpAnyZ_take (i := 3) (oi := ⟨some 57, .move (.tmp 12), 3, _, _, none⟩) (oz := ⟨none, .store 22 (.tmp 64) (.tmp 63), 0, _, _, none⟩) (v := .int .i64 j) rfl rfl (by kernel_rfl) (fun _ _ _ h => h) (by rfl) (by assumption) (fun wS hSw => ?_) ?_
     ·(try dsimp only at hSw); go_simp
     simp only [Act.put, pA, pB, pC]
     refine wpAnyZ_take (i := 4) (oi := ⟨some 58, .indexAddr 34 (.tmp 56) (.tmp 57), 0, _, _, none⟩) (oz := ⟨none, .store 22 (.tmp 64) (.tmp 63), 0, _, _, none⟩) (v := .pointer (some ⟨g, j, none⟩)) rfl rfl (by kernel_rfl) (fun _ _ _ h => h) (by rfl) (by assumption) (fun wS hSw => ?_) ?_
     ·(try dsimp only at hSw); go_simp
     simp only [Act.put, pA, pB, pC]
     refine wpAnyZ_take (i := 5) (oi := ⟨some 59, .load 22 (.tmp 58), 22, _, _, none⟩) (oz := ⟨none, .store 22 (.tmp 64) (.tmp 63), 0, _, _, none⟩) (v := uq) rfl rfl (by kernel_rfl) (fun _ _ _ h => h) (by rfl) (by assumption) (fun wS hSw => ?_) ?_
     ·(try dsimp only at hSw); go_simp
     simp only [Act.put, pA, pB, pC]
     refine wpAnyZ_take (i := 6) (oi := ⟨some 60, .fieldAddr 44 (.tmp 8) 0, 0, _, _, none⟩) (oz := ⟨none, .store 22 (.tmp 64) (.tmp 63), 0, _, _, none⟩) (v := .pointer (some ⟨P, 0, none⟩)) rfl rfl (by kernel_rfl) (fun _ _ _ h => h) (by rfl) (by assumption) (fun wS hSw => ?_) ?_
     ·(try dsimp only at hSw); go_simp
     simp only [Act.put, pA, pB, pC]
     refine wpAnyZ_take (i := 7) (oi := ⟨some 61, .load 3 (.tmp 60), 3, _, _, none⟩) (oz := ⟨none, .store 22 (.tmp 64) (.tmp 63), 0, _, _, none⟩) (v := .int .i64 id) rfl rfl (by kernel_rfl) (fun _ _ _ h => h) (by rfl) (by assumption) (fun wS hSw => ?_) ?_
     ·(try dsimp only at hSw); go_simp
     simp only [Act.put, pA, pB, pC]
     refine wpAnyZ_listed #[true, true, true, true, true, true, true, true, false, false, false, false] (by kernel_rfl) ?_
     refine wpAnyZ_one (i := 8) (o := ⟨some 62, .buildSlice 22 1 #[(0, .tmp 61)], 22, _, _, none⟩) (by kernel_rfl) rfl (fun K hK => ?_)
     go_simp
     have g8 : Grows wu (wu.alloc (.cells #[.int .i64 id] 3)) := (Below.refl _ wu).alloc (Nat.le_refl _) _
     have HR8 := Lib.hid (rowN_one wu 3 id wu.heap.size rfl)
     generalize wu.alloc (.cells #[.int .i64 id] 3) = w8 at *
     generalize wu.heap.size = T8 at *
     try clear hHeld
     refine hK.out _ _ (⟨(g8.cell (World.block_lt_of_cell? wu _ s0)).trans s0, (g8.cell (World.block_lt_of_cell? wu _ s1)).trans s1⟩) (fun hHeld => ?_)
     clear hK K
     try simp only [pA, pB, pC]
     refine wpAnyZ_listed #[true, true, true, true, true, true, true, true, true, false, false, false] (by kernel_rfl) ?_
     have s80 := (g8.cell (World.block_lt_of_cell? wu _ s0)).trans s0
     have s81 := (g8.cell (World.block_lt_of_cell? wu _ s1)).trans s1
     have G8 := gd.then g8
     have g80 := g8
     clear s0 s1 g8 gd
     have HO8 := Lib.hid (HOX.out.later G8)
     have hs8 := G8.size
     refine wpAnyZ_one (i := 9) (o := ⟨some 63, .call { callee := .builtin .append, args := #[.tmp 59, .tmp 62], argTypes := #[22, 22] }, 22, _, _, none⟩) (by kernel_rfl) rfl (fun K hK => ?_)
     refine step_num (b := w.heap.size + 1) rfl _ _ rfl rfl HO8.out rfl HR8.out (by have := HXL.out; simp only [List.length_cons, List.length_nil]; omega) (by omega) ?_
     intro v9 w9 o9 g9 e9
     have nb : uq.ownBlock ≠ some g := kind_ne HH.out HOX.out rfl |> fun h => h
     have nP : uq.ownBlock ≠ some P := fun e => by
      rcases HO8.out.2 with ⟨q, -⟩ | ⟨gq, cp, cu, q, _, q3, -⟩
      ·rw [q] at e; cases e
      ·rw [q] at e; cases e; have := heap_grows g80 h44; rw [this] at q3; cases q3
     have s90 := g9.cell s80 (fun e => nb e.symm)
     have s91 := g9.cell s81 (fun e => nP e.symm)
     obtain ⟨xa, xm, xc, rfl, -⟩ := (show ∃ a m c, v9 = .slice a m c ∧ True from by obtain ⟨a, c, e, -⟩ := o9.row; exact ⟨a, _, c, e, trivial⟩)
     try clear hHeld
     refine hK.out _ _ (⟨s90, s91⟩) (fun hHeld => ?_)
     clear hK K
     try simp only [pA, pB, pC]
     refine wpAnyZ_listed #[true, true, true, true, true, true, true, true, true, true, false, false] (by kernel_rfl) ?_
     have z9 : w9.frozen? ⟨g, j, none⟩ = false := by
      have hw8 := HZF.out w8 G8
      rw [← hw8]; exact World.frozen?_of_block (g9.block g (by omega) (fun e => nb e.symm))
     refine wpAnyZ_take (i := 10) (oi := ⟨some 64, .indexAddr 34 (.tmp 54) (.tmp 55), 0, _, _, none⟩) (oz := ⟨none, .store 22 (.tmp 64) (.tmp 63), 0, _, _, none⟩) (v := .pointer (some ⟨g, j, none⟩)) rfl rfl (by kernel_rfl) (fun _ _ _ h => h) (by rfl) (by assumption) (fun wS hSw => ?_) ?_
     ·(try dsimp only at hSw); go_simp
     simp only [Act.put, pA, pB, pC]
     refine wpAnyZ_listed #[true, true, true, true, true, true, true, true, true, true, true, false] (by kernel_rfl) ?_
     refine wpAnyZ_step (o := ⟨none, .store 22 (.tmp 64) (.tmp 63), 0, _, _, none⟩) (by kernel_rfl) (by decide) rfl (fun K hK => ?_)
     have HR := Lib.hid (HPOST.out _ _ (app_world HH.out HI.out hgm HUQ.out HXS.out G8 o9 g9 e9 (by omega) HBT.out))
     clear o9 g9 e9 hHeld
     go_simp
     try clear hHeld
     refine hK.out _ _ ?_
     clear hK K
     try simp only [pA, pB, pC]
     refine tlA #[true, true, true, true, true, true, true, true, true, true, true, true] ?_
     have hHeld := True.intro
     refine wpAnyH_done (by kernel_rfl) ?_ _
     refine Calm.normal ?_
     clear hHeld s90 s91 s80 s81 z9
     go_wp2_with fail
     go_roundw
     case rel => exact ⟨k + 1, by omega, by go_num, HR.out⟩
     case measure => simp [RowKit.intOf]; omega
    | none =>
     have hnum' : num (R (fstK ⟨id, ln, lv, cl, nm, st, wt, ds⟩)) = none := by rw [HRR.out]; exact hnum
     obtain ⟨hf, hN2⟩ := num_new HF.out HKN.out HNUM.out (lab_goes HT.out HGO.out) (by rw [HRR.out]; exact HRK.out) hnum'
     have hlk := HM6.out.look_ok und96 (zero3 w6) HRK.out
     rw [show FN num (r0, r1, r2) = none from by unfold FN; rw [hnum]; rfl] at hlk
     replace hlk : (Instr.lookup 96 (.map (some w.heap.size)) (.agg #[.int .i64 r0, .int .i64 r1, .int .i64 r2]) true).run Tryz.prog w6 = .ok (.tuple #[.int .i64 0, .bool false]) w6 := hlk
     obtain ⟨w7, hup, M7, g7⟩ := HM6.out.update und96 (by unfold maxLen; omega) HRK.out (.int .i64 (gn : Int))
     rw [FN_set] at M7
     unfold kv at hup
     simp only at hup
     have hB7 : Below w.heap.size w w7 := Below.grown HBT.out g7 HBT.out.size (fun q e => by injection e with e; omega)
     have hG7 : OwnG (w.heap.size + 1) w7 (.slice va gn vc) (gat ws k) := HG6.out.same fun q h1 h2 => g7.block q h2 (fun e => by injection e with e; omega)
     have hQ7 : w7.heap[P]? = some (.cells #[.int .i64 id, .slice ua un uc, .int .i64 lv, .string cl, .string nm, .bool st, .int .i64 wt, .int .i64 ds] 44) := (g7.block P hs6 (fun e => by injection e with e; have := HPB.out; omega)).trans HQ6.out
     have hs7 : w6.heap.size ≤ w7.heap.size := g7.size
     have HN2 := Lib.hid (show NumOk ws R (k + 1) (fun r => if r = (r0, r1, r2) then some gn else num r) from by rw [← HRR.out, ← HGN.out, gat_length]; exact hN2)
     have HFF := Lib.hid hf
     have HM7 := Lib.hid M7
     have HB7 := Lib.hid hB7
     have HG7 := Lib.hid hG7
     have HQ7 := Lib.hid hQ7
     clear hnum hnum' hN2 hf M7 hB7 hG7 hQ7 HG6 g7
     go_upto_region 14 with fail
     clear hlk hup c60 c61 c62
     go_wp2_with (at_builtin; refine wpList_append_list (w0 := w7) (b := w.heap.size + 1) (u := .slice none 0 0) (xs := []) (bx := w7.heap.size) (c := 1) rfl _ _ rfl rfl HG7.out ((Below.refl _ w7).alloc (Nat.le_refl _) _) rfl (OwnN.nil _ _) (fun k e => by cases e) rfl (cell_new1 w7 _ _) (by rw [HGN.out]; omega) (by simp only [World.size_alloc]; omega) ?_)
     intro v8 w8' o8 g8'
     obtain ⟨ta, m, tc, rfl, hgm, htc1, htc2, hG8⟩ := o8.form2
     have hmg : gn < m := by rw [← hgm, List.length_append, HGN.out]; exact Nat.lt_succ_self _
     have hGa : OwnG (w.heap.size + 1) (w7.alloc (.cells #[.slice none 0 0] 22)) (.slice va gn vc) (gat ws k) := HG7.out.later ((Below.refl _ w7).alloc (Nat.le_refl _) _)
     have HBT8 := Lib.hid (below_app ((HB7.out.trans (((Below.refl _ w7).alloc (Nat.le_refl _) (.cells #[.slice none 0 0] 22)).mono HB7.out.size))) hGa (by omega) g8')
     have HM8 := Lib.hid ((HM7.out.later ((Below.refl _ w7).alloc (Nat.le_refl _) (.cells #[.slice none 0 0] 22))).kept g8' (fun e => by have := (hGa.lt e.symm).1; omega))
     have hs8' : w7.heap.size ≤ w8'.heap.size := Nat.le_trans (Nat.le_trans (Nat.le_succ _) (Nat.le_of_eq (size_alloc w7 (.cells #[.slice none 0 0] 22)).symm)) g8'.size
     have HP44 : Hid (w8'.heap[P]? = some (.cells #[.int .i64 id, .slice ua un uc, .int .i64 lv, .string cl, .string nm, .bool st, .int .i64 wt, .int .i64 ds] 44)) := Lib.hid (by
      have h7 : (w7.alloc (.cells #[.slice none 0 0] 22)).heap[P]? = some (.cells #[.int .i64 id, .slice ua un uc, .int .i64 lv, .string cl, .string nm, .bool st, .int .i64 wt, .int .i64 ds] 44) := heap_grows ((Below.refl _ w7).alloc (Nat.le_refl _) _) HQ7.out
      refine (g8'.block P (by simp only [World.size_alloc]; omega) (fun e => ?_)).trans h7
      obtain ⟨us0, hh0, -⟩ := hGa
      rcases hh0.2 with ⟨q, -⟩ | ⟨gq, cap, cur, q, _, q3, -⟩
      ·rw [q] at e; cases e
      ·rw [q] at e; cases e; rw [h7] at q3; cases q3)
     have HPOST := Lib.hid (fun (v' : Value) (w' : World) (h : OwnG (w.heap.size + 1) w' v' ((gat ws k ++ [[]]).modify gn (· ++ [id])) ∧ Below w.heap.size w w' ∧ (∀ bn m f, bn < w.heap.size + 1 → MapV w8' bn m f → MapV w' bn m f) ∧ w8'.heap.size ≤ w'.heap.size) =>
      show GaR w ws R (k + 1) v' w' from ⟨_, by rw [gat_new HT.out HFF.out]; have h1 := h.1; rw [mod_last HGN.out] at h1; exact h1, h.2.2.1 _ _ _ (by omega) HM8.out, HN2.out, h.2.1, by have := h.2.2.2; omega⟩)
     have HGT := Lib.hid hG8
     have HXB := Lib.hid (fun (xs : List Int) (h : (gat ws k ++ [[]])[gn]? = some xs) => show xs.length ≤ 1000 from by rw [List.getElem?_append_right (by rw [HGN.out]; exact Nat.le_refl _)] at h; simp [HGN.out] at h; subst h; simp)
     clear HBT
     have HBT := HBT8
     have hs6' : P < w8'.heap.size := by omega
     clear hs6 o8 g8' hGa hG8
     go_upto_region 15 with fail
     obtain ⟨g, us, rfl, hbg, hh, hI⟩ := HGT.out.form3 (by rw [hgm]; omega)
     obtain ⟨xs, hxs⟩ : ∃ xs, (gat ws k ++ [[]])[gn]? = some xs := ⟨_, List.getElem?_eq_getElem (by rw [hgm]; omega)⟩
     obtain ⟨uq, huq⟩ : ∃ u, us[gn]? = some u := ⟨_, List.getElem?_eq_getElem (by rw [hI.len, hgm]; omega)⟩
     have hOx := hI.own _ uq xs huq hxs
     have s0 : w8'.drew.cell? ⟨g, gn, none⟩ = some uq := by
      have := World.ownsRow.cells hh (g := g) rfl _ uq huq
      rw [Go.WideShapes.add_plain, Nat.zero_add] at this
      exact this
     have s1 : w8'.drew.cell? ⟨P, 0, none⟩ = some (.int .i64 id) := by
      have h44 : w8'.drew.heap[P]? = some (.cells #[.int .i64 id, .slice ua un uc, .int .i64 lv, .string cl, .string nm, .bool st, .int .i64 wt, .int .i64 ds] 44) := HP44.out
      rw [cell_of_row _ _ 0 #[.int .i64 id, .slice ua un uc, .int .i64 lv, .string cl, .string nm, .bool st, .int .i64 wt, .int .i64 ds] 44 (0, 0) h44]; rfl
     have h44 : w8'.drew.heap[P]? = some (.cells #[.int .i64 id, .slice ua un uc, .int .i64 lv, .string cl, .string nm, .bool st, .int .i64 wt, .int .i64 ds] 44) := HP44.out
     have gd : Grows w8' w8'.drew := (Below.refl _ w8').drew
     have zb1 : (gn : Int) < m := by omega
     have zb2 : (0 : Int) ≤ gn := by omega
     have zb3 : gn < m := by omega
     have zf : ∀ W, Grows w8' W → W.frozen? ⟨g, gn, none⟩ = false := fun W gW => World.ownsRow.frozenAt (ownsRow_same hh fun k e => gW.block k (World.ownsRow.lt hh k e).2) _
     have hglt : g < w8'.heap.size := (World.ownsRow.lt hh g rfl).2
     have HH := Lib.hid hh
     have HI := Lib.hid hI
     have HXS := Lib.hid hxs
     have HUQ := Lib.hid huq
     have HOX := Lib.hid hOx
     have HXL := Lib.hid (HXB.out xs hxs)
     have HZF := Lib.hid zf
     clear hh hI hxs huq hOx zf HGT
     refine plain_Z 11 (fun w' => w'.cell? ⟨g, gn, none⟩ = some uq ∧ w'.cell? ⟨P, 0, none⟩ = some (.int .i64 id)) (by kernel_rfl) ?_
     have hHeld : (fun w' => w'.cell? ⟨g, gn, none⟩ = some uq ∧ w'.cell? ⟨P, 0, none⟩ = some (.int .i64 id)) w8'.drew := ⟨s0, s1⟩
     generalize w8'.drew = wu at *
     refine wpAnyZ_take (i := 0) (oi := ⟨some 54, .move (.tmp 5), 34, _, _, none⟩) (oz := ⟨none, .store 22 (.tmp 64) (.tmp 63), 0, _, _, none⟩) (v := .slice (some ⟨g, 0, none⟩) m tc) rfl rfl (by kernel_rfl) (fun _ _ _ h => h) (by rfl) (by assumption) (fun wS hSw => ?_) ?_
     ·(try dsimp only at hSw); go_simp
     simp only [Act.put, pA, pB, pC]
     refine wpAnyZ_take (i := 1) (oi := ⟨some 55, .move (.tmp 12), 3, _, _, none⟩) (oz := ⟨none, .store 22 (.tmp 64) (.tmp 63), 0, _, _, none⟩) (v := .int .i64 gn) rfl rfl (by kernel_rfl) (fun _ _ _ h => h) (by rfl) (by assumption) (fun wS hSw => ?_) ?_
     ·(try dsimp only at hSw); go_simp
     simp only [Act.put, pA, pB, pC]
     refine wpAnyZ_take (i := 2) (oi := ⟨some 56, .move (.tmp 5), 34, _, _, none⟩) (oz := ⟨none, .store 22 (.tmp 64) (.tmp 63), 0, _, _, none⟩) (v := .slice (some ⟨g, 0, none⟩) m tc) rfl rfl (by kernel_rfl) (fun _ _ _ h => h) (by rfl) (by assumption) (fun wS hSw => ?_) ?_
     ·(try dsimp only at hSw); go_simp
     simp only [Act.put, pA, pB, pC]
     refine wpAnyZ_take (i := 3) (oi := ⟨some 57, .move (.tmp 12), 3, _, _, none⟩) (oz := ⟨none, .store 22 (.tmp 64) (.tmp 63), 0, _, _, none⟩) (v := .int .i64 gn) rfl rfl (by kernel_rfl) (fun _ _ _ h => h) (by rfl) (by assumption) (fun wS hSw => ?_) ?_
     ·(try dsimp only at hSw); go_simp
     simp only [Act.put, pA, pB, pC]
     refine wpAnyZ_take (i := 4) (oi := ⟨some 58, .indexAddr 34 (.tmp 56) (.tmp 57), 0, _, _, none⟩) (oz := ⟨none, .store 22 (.tmp 64) (.tmp 63), 0, _, _, none⟩) (v := .pointer (some ⟨g, gn, none⟩)) rfl rfl (by kernel_rfl) (fun _ _ _ h => h) (by rfl) (by assumption) (fun wS hSw => ?_) ?_
     ·(try dsimp only at hSw); go_simp
     simp only [Act.put, pA, pB, pC]
     refine wpAnyZ_take (i := 5) (oi := ⟨some 59, .load 22 (.tmp 58), 22, _, _, none⟩) (oz := ⟨none, .store 22 (.tmp 64) (.tmp 63), 0, _, _, none⟩) (v := uq) rfl rfl (by kernel_rfl) (fun _ _ _ h => h) (by rfl) (by assumption) (fun wS hSw => ?_) ?_
     ·(try dsimp only at hSw); go_simp
     simp only [Act.put, pA, pB, pC]
     refine wpAnyZ_take (i := 6) (oi := ⟨some 60, .fieldAddr 44 (.tmp 8) 0, 0, _, _, none⟩) (oz := ⟨none, .store 22 (.tmp 64) (.tmp 63), 0, _, _, none⟩) (v := .pointer (some ⟨P, 0, none⟩)) rfl rfl (by kernel_rfl) (fun _ _ _ h => h) (by rfl) (by assumption) (fun wS hSw => ?_) ?_
     ·(try dsimp only at hSw); go_simp
     simp only [Act.put, pA, pB, pC]
     refine wpAnyZ_take (i := 7) (oi := ⟨some 61, .load 3 (.tmp 60), 3, _, _, none⟩) (oz := ⟨none, .store 22 (.tmp 64) (.tmp 63), 0, _, _, none⟩) (v := .int .i64 id) rfl rfl (by kernel_rfl) (fun _ _ _ h => h) (by rfl) (by assumption) (fun wS hSw => ?_) ?_
     ·(try dsimp only at hSw); go_simp
     simp only [Act.put, pA, pB, pC]
     refine wpAnyZ_listed #[true, true, true, true, true, true, true, true, false, false, false, false] (by kernel_rfl) ?_
     refine wpAnyZ_one (i := 8) (o := ⟨some 62, .buildSlice 22 1 #[(0, .tmp 61)], 22, _, _, none⟩) (by kernel_rfl) rfl (fun K hK => ?_)
     go_simp
     have g8 : Grows wu (wu.alloc (.cells #[.int .i64 id] 3)) := (Below.refl _ wu).alloc (Nat.le_refl _) _
     have HR8 := Lib.hid (rowN_one wu 3 id wu.heap.size rfl)
     generalize wu.alloc (.cells #[.int .i64 id] 3) = w8 at *
     generalize wu.heap.size = T8 at *
     try clear hHeld
     refine hK.out _ _ (⟨(g8.cell (World.block_lt_of_cell? wu _ s0)).trans s0, (g8.cell (World.block_lt_of_cell? wu _ s1)).trans s1⟩) (fun hHeld => ?_)
     clear hK K
     try simp only [pA, pB, pC]
     refine wpAnyZ_listed #[true, true, true, true, true, true, true, true, true, false, false, false] (by kernel_rfl) ?_
     have s80 := (g8.cell (World.block_lt_of_cell? wu _ s0)).trans s0
     have s81 := (g8.cell (World.block_lt_of_cell? wu _ s1)).trans s1
     have G8 := gd.then g8
     have g80 := g8
     clear s0 s1 g8 gd
     have HO8 := Lib.hid (HOX.out.later G8)
     have hs8 := G8.size
     refine wpAnyZ_one (i := 9) (o := ⟨some 63, .call { callee := .builtin .append, args := #[.tmp 59, .tmp 62], argTypes := #[22, 22] }, 22, _, _, none⟩) (by kernel_rfl) rfl (fun K hK => ?_)
     refine step_num (b := w.heap.size + 1) rfl _ _ rfl rfl HO8.out rfl HR8.out (by have := HXL.out; simp only [List.length_cons, List.length_nil]; omega) (by omega) ?_
     intro v9 w9 o9 g9 e9
     have nb : uq.ownBlock ≠ some g := kind_ne HH.out HOX.out rfl |> fun h => h
     have nP : uq.ownBlock ≠ some P := fun e => by
      rcases HO8.out.2 with ⟨q, -⟩ | ⟨gq, cp, cu, q, _, q3, -⟩
      ·rw [q] at e; cases e
      ·rw [q] at e; cases e; have := heap_grows g80 h44; rw [this] at q3; cases q3
     have s90 := g9.cell s80 (fun e => nb e.symm)
     have s91 := g9.cell s81 (fun e => nP e.symm)
     obtain ⟨xa, xm, xc, rfl, -⟩ := (show ∃ a m c, v9 = .slice a m c ∧ True from by obtain ⟨a, c, e, -⟩ := o9.row; exact ⟨a, _, c, e, trivial⟩)
     try clear hHeld
     refine hK.out _ _ (⟨s90, s91⟩) (fun hHeld => ?_)
     clear hK K
     try simp only [pA, pB, pC]
     refine wpAnyZ_listed #[true, true, true, true, true, true, true, true, true, true, false, false] (by kernel_rfl) ?_
     have z9 : w9.frozen? ⟨g, gn, none⟩ = false := by
      have hw8 := HZF.out w8 G8
      rw [← hw8]; exact World.frozen?_of_block (g9.block g (by omega) (fun e => nb e.symm))
     refine wpAnyZ_take (i := 10) (oi := ⟨some 64, .indexAddr 34 (.tmp 54) (.tmp 55), 0, _, _, none⟩) (oz := ⟨none, .store 22 (.tmp 64) (.tmp 63), 0, _, _, none⟩) (v := .pointer (some ⟨g, gn, none⟩)) rfl rfl (by kernel_rfl) (fun _ _ _ h => h) (by rfl) (by assumption) (fun wS hSw => ?_) ?_
     ·(try dsimp only at hSw); go_simp
     simp only [Act.put, pA, pB, pC]
     refine wpAnyZ_listed #[true, true, true, true, true, true, true, true, true, true, true, false] (by kernel_rfl) ?_
     refine wpAnyZ_step (o := ⟨none, .store 22 (.tmp 64) (.tmp 63), 0, _, _, none⟩) (by kernel_rfl) (by decide) rfl (fun K hK => ?_)
     have HR := Lib.hid (HPOST.out _ _ (app_world HH.out HI.out hgm HUQ.out HXS.out G8 o9 g9 e9 (by omega) HBT.out))
     clear o9 g9 e9 hHeld
     go_simp
     try clear hHeld
     refine hK.out _ _ ?_
     clear hK K
     try simp only [pA, pB, pC]
     refine tlA #[true, true, true, true, true, true, true, true, true, true, true, true] ?_
     have hHeld := True.intro
     refine wpAnyH_done (by kernel_rfl) ?_ _
     refine Calm.normal ?_
     clear hHeld s90 s91 s80 s81 z9
     go_wp2_with fail
     go_roundw
     case rel => exact ⟨k + 1, by omega, by go_num, HR.out⟩
     case measure => simp [RowKit.intOf]; omega
  ·obtain rfl : k = N := by omega
   go_wp2_with fail
   go_ret
   obtain ⟨num, hG, -, -, hB, -⟩ := HI.out
   exact ⟨_, rfl, hG.base (by omega), hB⟩

end Go.Proofs.YtoaldbjcpfkcjaaGreat
