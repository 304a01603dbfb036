/- Groups. -/
import Derived.Test.YtoaldbjcpfkcjaaGreatcSa
namespace Go.Proofs.YtoaldbjcpfkcjaaGreat
open Go.RowKit Go.Lib

open Go.Sort Go.Shelf
theorem sortrow_any {b : Nat} {u : Value} {xs : List Int} (w : World) (h : OwnN b w u xs) (hb : b ≤ w.heap.size) (hl : xs.length ≤ 1000000) :
  Calls Tryz.prog 40 #[u] w fun e w' => e = .returned (.tuple #[]) ∧ OwnN b w' u (sortI xs) ∧ w.grownBy w' u.ownBlock := by
 have hlen : (sortI xs).length = xs.length := (sortI_perm xs).length_eq
 by_cases hn : u = .slice none 0 0
 ·subst hn
  have hx : xs = [] := by
   rcases h.2 with ⟨-, h2⟩ | ⟨k, cap, cur, h1, -⟩
   ·exact List.eq_nil_of_length_eq_zero h2
   ·cases h1
  subst hx
  refine (Tryz.slices_Sort_int_none _ _ _).mono ?_
  rintro e w1 ⟨rfl, rfl⟩
  exact ⟨rfl, by unfold sortI; rw [List.mergeSort_nil]; exact h, World.grownBy.refl _ _⟩
 ·obtain ⟨g, cap, rfl, hg, hg2, hc, hm, -, hH⟩ := holds_of_ownsRow h hn
  refine (Tryz.slices_Sort_int g 0 cap xs w hH hg2 (by omega)).mono ?_
  rintro e w1 ⟨rfl, q, os, hw⟩
  have o1 := ownsRow_putRow (q := q) (k := xs.length) (ys := sortI xs) h hlen (Nat.le_refl _)
  rw [List.take_of_length_le (by omega)] at o1
  have g1 : Grows (putRow (Value.int .i64) (Sort.ahead w q) g 0 (sortI xs).toArray) w1 := hw ▸ grows_grow _ _
  have o2 : OwnN b (putRow (Value.int .i64) (Sort.ahead w q) g 0 (sortI xs).toArray) (.slice (some ⟨g, 0, none⟩) xs.length cap) (sortI xs) := by unfold OwnN; rw [hlen]; exact o1
  refine ⟨rfl, o2.later g1, ⟨g1.os, g1.tape, g1.output, ?_, fun k hk hne => ?_⟩⟩
  ·have := g1.size; rw [size_putRow] at this; exact this
  ·rw [g1.block k (by rw [size_putRow]; exact hk)]
   exact heap_putRow (fun e => hne (by rw [e]; rfl))
theorem inner_put {b : Nat} {W W' : World} {us : List Value} {gs : List (List Int)} {j : Nat} {u : Value} {xs ys : List Int} (hI : Inner b W us gs) (hu : us[j]? = some u) (hx : gs[j]? = some xs) (ho : OwnN b W' u ys) (hg : W.grownBy W' u.ownBlock) : Inner b W' us (gs.set j ys) := by
 refine ⟨by simp [hI.len], fun i q zs hq hz => ?_, hI.ne⟩
 have hjl := (List.getElem?_eq_some_iff.1 hx).1
 by_cases e : i = j
 ·subst e
  rw [List.getElem?_set_self hjl] at hz
  rw [hu] at hq
  cases hq; cases hz
  exact ho
 ·rw [List.getElem?_set_ne (fun h => e h.symm)] at hz
  have hq0 := hI.own i q zs hq hz
  exact ownsRow_same hq0 fun k ek => hg.block k (World.ownsRow.lt hq0 k ek).2 fun e2 => hI.ne i j q u k e hq hu ek e2.symm
/-- The first j lists are sorted. -/
def srt (j : Nat) (gs : List (List Int)) : List (List Int) := (gs.take j).map sortI ++ gs.drop j
theorem srt_zero (gs : List (List Int)) : srt 0 gs = gs := rfl
theorem srt_len (j : Nat) (gs : List (List Int)) : (srt j gs).length = gs.length := by
 unfold srt
 rw [List.length_append, List.length_map, ← List.length_append, List.take_append_drop]
theorem srt_at {j : Nat} {gs : List (List Int)} {xs : List Int} (h : gs[j]? = some xs) : (srt j gs)[j]? = some xs := by
 have hl := (List.getElem?_eq_some_iff.1 h).1
 unfold srt
 rw [List.getElem?_append_right (by simp; omega), List.getElem?_drop]
 simp only [List.length_map, List.length_take]
 rw [show j + (j - min j gs.length) = j by omega]; exact h
theorem srt_next {j : Nat} {gs : List (List Int)} {xs : List Int} (h : gs[j]? = some xs) : (srt j gs).set j (sortI xs) = srt (j + 1) gs := by
 obtain ⟨hl, he⟩ := List.getElem?_eq_some_iff.1 h
 unfold srt
 rw [List.set_append_right _ _ (by simp; omega), List.drop_eq_getElem_cons hl, he, List.take_succ_eq_append_getElem hl, he]
 simp [Nat.min_eq_left (Nat.le_of_lt hl)]
theorem srt_end {j : Nat} {gs : List (List Int)} (h : gs.length = j) : srt j gs = gs.map sortI := by
 unfold srt
 rw [List.take_of_length_le (by omega), List.drop_of_length_le (by omega), List.append_nil]
/-- What a round of joining leaves. -/
def GrR (w : World) (ws : List Wy) (k : Nat) (wr : World) : Prop :=
 ∃ F R, FOk F R (edges (ws.take k)) ∧ FK F ∧ (∀ i a, lab (ws.take k) i = some a → F a ≠ none) ∧ MapV wr w.heap.size (4 * k) (FV F) ∧ Below w.heap.size w wr
theorem lab_take {ws : List Wy} {k i : Nat} {a : Key} {t : Wy} (ht : ws[k]? = some t) (h : lab (ws.take (k + 1)) i = some a) : (lab (ws.take k) i = some a) ∨ (goes t = true ∧ a = fstK t) := by
 obtain ⟨x, hx, hg, rfl⟩ := lab_some h
 rw [List.getElem?_take] at hx
 split at hx
 ·by_cases e : i = k
  ·subst e
   rw [ht] at hx; cases hx
   exact .inr ⟨hg, rfl⟩
  ·exact .inl (lab_goes (by rw [List.getElem?_take, if_pos (by omega)]; exact hx) hg)
 ·cases hx
theorem take_snocW {ws : List Wy} {k : Nat} {t : Wy} (h : ws[k]? = some t) : ws.take (k + 1) = ws.take k ++ [t] := by
 obtain ⟨hl, he⟩ := List.getElem?_eq_some_iff.1 h
 rw [List.take_succ_eq_append_getElem hl, he]
theorem gr_not {w wr w' : World} {ws : List Wy} {k : Nat} {t : Wy} (h : GrR w ws k wr) (ht : ws[k]? = some t) (hg : goes t = false) (g : Grows wr w') : GrR w ws (k + 1) w' := by
 obtain ⟨F, R, h1, h2, h3, h4, h5⟩ := h
 refine ⟨F, R, by rw [take_snocW ht, edges_snoc, hg]; exact h1, h2, fun i a ha => ?_, (h4.later g).mono (by omega), h5.trans (g.mono h5.size)⟩
 rcases lab_take ht ha with q | ⟨q, -⟩
 ·exact h3 i a q
 ·rw [hg] at q; cases q
theorem gr_zero {w w0 : World} (ws : List Wy) (M : MapV w0 w.heap.size 0 (fun _ => none)) (g : Below w.heap.size w w0) : GrR w ws 0 w0 := by
 refine ⟨fun _ => none, fun k => k, ?_, ?_, ?_, M, g⟩
 ·rw [List.take_zero]; exact FOk.nil
 ·intro k u n h; cases h
 ·intro i a h; rw [List.take_zero] at h; simp [lab] at h
theorem gr_yes {w w3 w4 : World} {ws : List Wy} {k : Nat} {t : Wy} {p l : Key} {F : Forest} (ht : ws[k]? = some t) (hg : goes t = true) (hp : fstK t = p) (hl : lstK t = l) (hF3 : ∀ i a, lab (ws.take k) i = some a → F a ≠ none) (h : JoinR F p l (edges (ws.take k)) w w3 w.heap.size (4 * k) w4) : GrR w ws (k + 1) w4 := by
 obtain ⟨F', R', h1, h2, h3, h4, h5, -, h7, h8⟩ := h
 subst hp hl
 refine ⟨F', R', by rw [take_snocW ht, edges_snoc, hg]; exact h1, h2, fun i a ha => ?_, h8.mono (by omega), h7⟩
 rcases lab_take ht ha with q | ⟨-, q⟩
 ·exact h3 _ (hF3 i a q)
 ·subst q; exact h4
theorem sort_round {w W w7 : World} {b g n c j : Nat} {us : List Value} {gs : List (List Int)} {u : Value} {xs : List Int} (hh : W.ownsRow b 22 1 (.slice (some ⟨g, 0, none⟩) n c) n us) (hI : Inner b W us (srt j gs)) (hu : us[j]? = some u) (hx : gs[j]? = some xs) (hn : gs.length = n)
  (ho : OwnN b W u xs) (o7 : OwnN b w7 u (sortI xs)) (g7 : W.grownBy w7 u.ownBlock) (hB : Below w.heap.size w W) (hwb : w.heap.size ≤ b) (hs : b ≤ W.heap.size) :
  OwnG b w7 (.slice (some ⟨g, 0, none⟩) n c) (srt (j + 1) gs) ∧ Below w.heap.size w w7 ∧ b ≤ w7.heap.size := by
 refine ⟨⟨us, ?_, ?_⟩, Below.grown hB g7 hB.size (fun k e => by have := (World.ownsRow.lt ho k e).1; omega), Nat.le_trans hs g7.size⟩
 ·rw [srt_len, hn]
  exact ownsRow_same hh fun k e => g7.block k (World.ownsRow.lt hh k e).2 fun e2 => kind_ne hh ho e e2.symm
 ·rw [← srt_next hx]
  exact inner_put hI hu (srt_at hx) o7 g7
set_option maxRecDepth 100000 in
set_option maxHeartbeats 4000000 in
theorem groups_any {ws : List Wy} (hK : ∀ t ∈ ws, WK t) (v : Value) (w : World) (hv : RowW w v ws) (hl : ws.length ≤ 1000) :
  Calls Tryz.prog 16 #[v] w fun e w' => ∃ v', e = .returned v' ∧ OwnG w.heap.size w' v' (grpW ws) ∧ Below w.heap.size w w' := by
 have hv0 := hv
 obtain ⟨a, cap, rfl, hc1, hc2, -⟩ := hv0
 obtain ⟨N, hN⟩ : ∃ N, ws.length = N := ⟨_, rfl⟩
 rw [hN] at hv hc1 hl ⊢
 have HV := Lib.hid hv
 have HN := Lib.hid hN
 have HK := Lib.hid hK
 have hmm := @run_makeMap Tryz.prog
 have g0 : Grows w (w.alloc (.map #[] 0)) := (Below.refl _ w).alloc (Nat.le_refl _) _
 have MN := MapV.made w
 clear hv hN hK
 go_enter Tryz.func16, Tryz.ntmps16
 go_upto_region 2 with fail
 generalize w.alloc (.map #[] 0) = w0 at *
 clear hmm
 have HI0 := Lib.hid (show GrR w ws 0 w0 from gr_zero ws MN g0)
 clear MN g0
 go_wp2_with fail
 go_loopw [12] (fun i wr => ∃ k : Nat, k ≤ N ∧ i = .int .i64 k ∧ Hid (GrR w ws k wr)) (fun i _ => N - (RowKit.intOf i).toNat)
 case atStart => exact ⟨0, Nat.zero_le _, rfl, HI0⟩
 case round =>
  obtain ⟨k, hk, rfl, HI⟩ := hrel
  by_cases hlt : k < N
  ·have bb1 : (k : Int) < N := by omega
   have bb2 : (0 : Int) ≤ k := by omega
   have hB : Below w.heap.size w wr := by obtain ⟨_, _, _, _, _, _, q⟩ := HI.out; exact q
   have hR := HV.out.later hB
   obtain ⟨bb, oo, rfl, hq0⟩ := hR.spot (by rw [HN.out]; omega)
   obtain ⟨t, ht⟩ : ∃ t, ws[k]? = some t := ⟨_, List.getElem?_eq_getElem (by rw [HN.out]; exact hlt)⟩
   have hWK := Lib.hid (HK.out t (List.mem_of_getElem? ht))
   obtain ⟨u, hu, c0, c1, c2, c3, c4, c5, c6, c7⟩ := hq0 k t ht
   obtain ⟨id, ln, lv, cl, nm, st, wt, ds⟩ := t
   simp only at hu c0 c1 c2 c3 c4 c5 c6 c7
   obtain ⟨ua, un, uc, rfl, hun, hu⟩ := hu.form
   have HU := Lib.hid hu
   have HT := Lib.hid ht
   have C1 := (Has.nil hB).push [.int .i64 id, .slice ua un uc, .int .i64 lv, .string cl, .string nm, .bool st, .int .i64 wt, .int .i64 ds] 44
   have G1 : Grows wr (wr.alloc (.cells #[.int .i64 id, .slice ua un uc, .int .i64 lv, .string cl, .string nm, .bool st, .int .i64 wt, .int .i64 ds] 44)) := (Below.refl _ wr).alloc (Nat.le_refl _) _
   clear hq0 hR hu ht hB hun
   go_upto_region 5 with fail
   clear c0 c1 c2 c3 c4 c5 c6 c7
   change Has w _ (wr.alloc (.cells #[.int .i64 id, .slice ua un uc, .int .i64 lv, .string cl, .string nm, .bool st, .int .i64 wt, .int .i64 ds] 44)) at C1
   generalize wr.alloc (.cells #[.int .i64 id, .slice ua un uc, .int .i64 lv, .string cl, .string nm, .bool st, .int .i64 wt, .int .i64 ds] 44) = w1 at *
   generalize wr.heap.size = P at *
   have k0 := C1.fact (.head _) (i := 0) rfl
   have k1 := C1.fact (.head _) (i := 1) rfl
   have k2 := C1.fact (.head _) (i := 2) rfl
   have k3 := C1.fact (.head _) (i := 3) rfl
   have k4 := C1.fact (.head _) (i := 4) rfl
   have k5 := C1.fact (.head _) (i := 5) rfl
   have k6 := C1.fact (.head _) (i := 6) rfl
   have k7 := C1.fact (.head _) (i := 7) rfl
   cases hgo : goes ⟨id, ln, lv, cl, nm, st, wt, ds⟩
   ·have HGO := Lib.hid hgo
    clear hgo
    have HC := Lib.hid (stopping_is ⟨id, ln, lv, cl, nm, st, wt, ds⟩ (.slice ua un uc) false HGO.out w1 (HU.out.later G1))
    go_wp2_with fail
    refine HC.out.mono ?_
    rintro e w2 ⟨rfl, g2⟩
    clear k0 k1 k2 k3 k4 k5 k6 k7
    have G2 := G1.then g2
    have HR := Lib.hid (gr_not HI.out HT.out HGO.out G2)
    clear C1 HC G1 g2 G2
    go_wp2_with fail
    go_roundw
    case rel => exact ⟨k + 1, by omega, by go_num, HR⟩
    case measure => simp [RowKit.intOf]; omega
   ·have HGO := Lib.hid hgo
    clear hgo
    have HC := Lib.hid (stopping_is ⟨id, ln, lv, cl, nm, st, wt, ds⟩ (.slice ua un uc) true HGO.out w1 (HU.out.later G1))
    go_wp2_with fail
    refine HC.out.mono ?_
    rintro e w2 ⟨rfl, g2⟩
    clear k0 k1 k2 k3 k4 k5 k6 k7
    have C2 := C1.later g2
    have G2 := G1.then g2
    clear C1 HC G1 g2
    have k0 := C2.fact (.head _) (i := 0) rfl
    have k1 := C2.fact (.head _) (i := 1) rfl
    have k2 := C2.fact (.head _) (i := 2) rfl
    have k3 := C2.fact (.head _) (i := 3) rfl
    have k4 := C2.fact (.head _) (i := 4) rfl
    have k5 := C2.fact (.head _) (i := 5) rfl
    have k6 := C2.fact (.head _) (i := 6) rfl
    have k7 := C2.fact (.head _) (i := 7) rfl
    obtain ⟨⟨p0, p1, p2⟩, hp⟩ : ∃ q, fstK ⟨id, ln, lv, cl, nm, st, wt, ds⟩ = q := ⟨_, rfl⟩
    obtain ⟨⟨l0, l1, l2⟩, hlst⟩ : ∃ q, lstK ⟨id, ln, lv, cl, nm, st, wt, ds⟩ = q := ⟨_, rfl⟩
    have HS := Lib.hid (stops_at ⟨id, ln, lv, cl, nm, st, wt, ds⟩ (.slice ua un uc) p0 p1 p2 l0 l1 l2 hp hlst w2 (HU.out.later G2))
    have HP := Lib.hid hp
    have HL := Lib.hid hlst
    clear hp hlst
    go_wp2_with fail
    refine HS.out.mono ?_
    rintro e w3 ⟨rfl, g3⟩
    clear k0 k1 k2 k3 k4 k5 k6 k7
    have C3 := C2.later g3
    have G3 := G2.then g3
    clear C2 HS G2 g3
    obtain ⟨F, R, hF1, hF2, hF3, hF4, hF5⟩ := HI.out
    have hJ := fjoin_any (k := (p0, p1, p2)) (l := (l0, l1, l2)) hF1 hF2 (by have := hWK.out.1; rw [HP.out] at this; exact this) (by have := hWK.out.2; rw [HL.out] at this; exact this) C3.low (Nat.le_refl _) (hF4.later G3) (by unfold maxLen; omega)
    unfold kv at hJ
    simp only at hJ
    have HJ := Lib.hid hJ
    have HF3 := Lib.hid hF3
    clear hF1 hF2 hF3 hF4 hF5 hJ
    go_wp2_with fail
    refine HJ.out.mono ?_
    rintro e w4 ⟨rfl, hj⟩
    have HR := Lib.hid (gr_yes HT.out HGO.out HP.out HL.out HF3.out hj)
    clear HJ hj C3
    go_wp2_with fail
    go_roundw
    case rel => exact ⟨k + 1, by omega, by go_num, HR⟩
    case measure => simp [RowKit.intOf]; omega
  ·obtain rfl : k = N := by omega
   rename World => wa
   obtain ⟨F, R, hF1, hF2, hF3, hF4, hF5⟩ := HI.out
   rw [List.take_of_length_le (by rw [HN.out]; exact Nat.le_refl _)] at hF1 hF3
   have HG := Lib.hid (gather_any hF1 hF2 hF3 HK.out _ wa w.heap.size (4 * k) (HV.out.later hF5) hF4 (by rw [HN.out]; exact hl))
   have HB := Lib.hid hF5
   clear hF1 hF2 hF3 hF4 hF5
   go_wp2_with fail
   refine HG.out.mono ?_
   rintro e w5 ⟨vg, rfl, hO, g5⟩
   obtain ⟨va, gn, vc, rfl, hgn, hvc1, hvc2, hO⟩ := hO.form2
   have hgl := gat_le ws ws.length
   rw [HN.out] at hgl hgn hO
   rw [hgn] at hgl
   have HGN := Lib.hid hgn
   have HI5 := Lib.hid (show OwnG wa.heap.size w5 (.slice va gn vc) (srt 0 (gat ws k)) ∧ Below w.heap.size w w5 ∧ wa.heap.size ≤ w5.heap.size from ⟨by rw [srt_zero]; exact hO, HB.out.trans (g5.mono HB.out.size), g5.size⟩)
   clear hgn hO HG g5
   go_wp2_with fail
   go_loopw [31] (fun i W => ∃ j : Nat, j ≤ gn ∧ i = .int .i64 j ∧ Hid (OwnG wa.heap.size W (.slice va gn vc) (srt j (gat ws k)) ∧ Below w.heap.size w W ∧ wa.heap.size ≤ W.heap.size)) (fun i _ => gn - (RowKit.intOf i).toNat)
   case atStart => exact ⟨0, Nat.zero_le _, rfl, HI5⟩
   case round =>
    obtain ⟨j, hj, rfl, HJ⟩ := hrel
    by_cases hlj : j < gn
    ·have b1 : (j : Int) < gn := by omega
     have b2 : (0 : Int) ≤ j := by omega
     obtain ⟨hG, hB, hsz⟩ := HJ.out
     obtain ⟨xs, hxs⟩ : ∃ xs, (gat ws k)[j]? = some xs := ⟨_, List.getElem?_eq_getElem (by rw [HGN.out]; exact hlj)⟩
     obtain ⟨g, us, rfl, hbg, hh, hI⟩ := hG.form3 (by rw [srt_len, HGN.out]; omega)
     obtain ⟨uq, huq⟩ : ∃ u, us[j]? = some u := ⟨_, List.getElem?_eq_getElem (by rw [hI.len, srt_len, HGN.out]; exact hlj)⟩
     have hOx := hI.own j uq xs huq (srt_at hxs)
     have s0 := World.ownsRow.cells hh (g := g) rfl j uq huq
     rw [Go.WideShapes.add_plain, Nat.zero_add] at s0
     have hS := Lib.hid (sortrow_any wr hOx (by omega) (by have := gat_xs (List.mem_of_getElem? hxs); omega))
     have HH := Lib.hid hh
     have HX := Lib.hid (And.intro hI (And.intro huq hxs))
     have HB2 := Lib.hid hB
     have HOX := Lib.hid hOx
     clear hh hI huq hxs hOx hG hB
     go_wp2_with fail
     refine hS.out.mono ?_
     rintro e w7 ⟨rfl, o7, g7⟩
     have HR := Lib.hid (sort_round HH.out HX.out.1 HX.out.2.1 HX.out.2.2 (by rw [HGN.out]) HOX.out o7 g7 HB2.out HB.out.size hsz)
     clear hS o7 g7 s0
     go_wp2_with fail
     go_roundw
     case rel => exact ⟨j + 1, by omega, by go_num, HR⟩
     case measure => simp [RowKit.intOf]; omega
    ·obtain rfl : j = gn := by omega
     obtain ⟨hG, hB, hsz⟩ := HJ.out
     rw [srt_end HGN.out] at hG
     have HS := Lib.hid (sortg_any wr hG hsz (by rw [List.length_map, HGN.out]; omega))
     have HB2 := Lib.hid hB
     clear hG hB
     go_wp2_with fail
     refine HS.out.mono ?_
     rintro e w8 ⟨rfl, o8, g8⟩
     have HO := Lib.hid o8
     have HG8 := Lib.hid g8
     clear o8 g8 HS
     go_wp2_with fail
     go_ret
     exact ⟨_, rfl, (show grpW ws = sortG ((gat ws k).map sortI) from by unfold grpW grp gat; rw [List.map_map, HN.out]; rfl) ▸ HO.out.base HB.out.size, HB2.out.trans (HG8.out.mono HB.out.size)⟩

end Go.Proofs.YtoaldbjcpfkcjaaGreat
