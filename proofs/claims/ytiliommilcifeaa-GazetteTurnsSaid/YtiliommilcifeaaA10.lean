/- Names of things are collected. -/
import Derived.Test.YtiliommilcifeaaA8
import Derived.Test.YtiliommilcifeaaA9
namespace Go.Proofs.Ytiliommilcifeaa
open Go.RowKit Go.Lib Go.Sort

theorem ret_in {a b : Int} {x y : ByteArray} (h : a = b) (g : x = y) : Ending.returned (.tuple #[.int .i64 a, .string x]) = .returned (.tuple #[.int .i64 b, .string y]) := by rw [h, g]
set_option maxHeartbeats 1000000 in
theorem faceName_any (p : Fc) (w : World) : Calls Try.prog 38 #[.agg (Fc.cells p).toArray] w fun e w' => e = .returned (.tuple #[.int .i64 p.id, str p.nm]) ∧ Lays w w' := by
  have hH : Has w [(w.heap.size, Fc.cells p)] (w.alloc (.cells (Fc.cells p).toArray 38)) := has1 _ 38
  have HL := Lib.hid ((Lays.refl w).alloc (.cells (Fc.cells p).toArray 38))
  unfold Fc.cells at *
  have c0 := hH.fact (.head _) (i := 0) rfl
  have c1 := hH.fact (.head _) (i := 2) rfl
  simp only [] at c0 c1
  go_enter Try.func38, Try.ntmps38
  go_upto_region 1 with fail
  generalize hw2 : w.alloc _ = w2 at *
  generalize hA : w.heap.size = A at *
  clear hH hw2 hA
  go_quiet (fail)
  have HL2 := Lib.hid (HL.out.trans (Lays.of_drew w2 nq))
  generalize w2.drewN nq = wz at *
  clear c0 c1
  go_wp2_with fail
  exact bodyPost_ret (v := .tuple #[.int .i64 p.id, str p.nm]) (by simp [results, Try.results38, go_sem]) rfl ⟨rfl, HL2.out⟩
set_option maxHeartbeats 1000000 in
theorem wayName_any (p : Fc) (w : World) : Calls Try.prog 41 #[.agg (wcells p).toArray] w fun e w' => e = .returned (.tuple #[.int .i64 p.id, str p.nm]) ∧ Lays w w' := by
  have hH : Has w [(w.heap.size, wcells p)] (w.alloc (.cells (wcells p).toArray 41)) := has1 _ 41
  have HL := Lib.hid ((Lays.refl w).alloc (.cells (wcells p).toArray 41))
  unfold wcells at *
  have c0 := hH.fact (.head _) (i := 0) rfl
  have c1 := hH.fact (.head _) (i := 4) rfl
  simp only [] at c0 c1
  go_enter Try.func41, Try.ntmps41
  go_upto_region 1 with fail
  generalize hw2 : w.alloc _ = w2 at *
  generalize hA : w.heap.size = A at *
  clear hH hw2 hA
  go_quiet (fail)
  have HL2 := Lib.hid (HL.out.trans (Lays.of_drew w2 nq))
  generalize w2.drewN nq = wz at *
  clear c0 c1
  go_wp2_with fail
  exact bodyPost_ret (v := .tuple #[.int .i64 p.id, str p.nm]) (by simp [results, Try.results41, go_sem]) rfl ⟨rfl, HL2.out⟩
set_option maxHeartbeats 1000000 in
theorem placeName_any (p : Pl) (w : World) : Calls Try.prog 43 #[.agg (Pl.cells p).toArray] w fun e w' => e = .returned (.tuple #[.int .i64 p.id, str p.nm]) ∧ Lays w w' := by
  have hH : Has w [(w.heap.size, Pl.cells p)] (w.alloc (.cells (Pl.cells p).toArray 36)) := has1 _ 36
  have HL := Lib.hid ((Lays.refl w).alloc (.cells (Pl.cells p).toArray 36))
  unfold Pl.cells at *
  have c0 := hH.fact (.head _) (i := 0) rfl
  have c1 := hH.fact (.head _) (i := 4) rfl
  simp only [] at c0 c1
  go_enter Try.func43, Try.ntmps43
  go_upto_region 1 with fail
  generalize hw2 : w.alloc _ = w2 at *
  generalize hA : w.heap.size = A at *
  clear hH hw2 hA
  go_quiet (fail)
  have HL2 := Lib.hid (HL.out.trans (Lays.of_drew w2 nq))
  generalize w2.drewN nq = wz at *
  clear c0 c1
  go_wp2_with fail
  exact bodyPost_ret (v := .tuple #[.int .i64 p.id, str p.nm]) (by simp [results, Try.results43, go_sem]) rfl ⟨rfl, HL2.out⟩

/-- A collector at C: the name that is looked for, the numbers so far. -/
def Col (w0 : World) (C : Nat) (nm : List UInt8) (xs : List Int) (w : World) : Prop := ∃ u, Has w0 [(C, [str nm, u])] w ∧ Own tI (C + 1) w u xs
theorem Col.later {w0 w w' : World} {C : Nat} {nm : List UInt8} {xs : List Int} (h : Col w0 C nm xs w) (g : Grows w w') : Col w0 C nm xs w' := by
  obtain ⟨u, h1, h2⟩ := h
  exact ⟨u, h1.later g, h2.later g⟩
theorem Has.below {w0 w w' : World} {C : Nat} {xs : List Value} (h : Has w0 [(C, xs)] w) (g : Below (C + 1) w w') : Has w0 [(C, xs)] w' := by
  have h1 := h.ge _ (.head _)
  have h2 := h.lt _ (.head _)
  refine ⟨fun p hp => ?_, fun p hp => ?_, fun p hp => ?_, h.nd, h.low.trans (g.mono (by simp only at h1; omega))⟩
  · obtain rfl := List.mem_singleton.1 hp
    exact (h.c _ (.head _)).later g (by simp)
  · obtain rfl := List.mem_singleton.1 hp
    exact Nat.lt_of_lt_of_le h2 g.size
  · obtain rfl := List.mem_singleton.1 hp
    exact h1
theorem Col.add {w0 w w2 : World} {C : Nat} {nm : List UInt8} {xs : List Int} {u u2 : Value} {id : Int} (h : Has w0 [(C, [str nm, u])] w) (ho : Own tI (C + 1) w u xs) (ho2 : Own tI (C + 1) w2 u2 (xs ++ [id])) (hg : w.grownBy w2 u.ownBlock) : Col w0 C nm (xs ++ [id]) (w2.setCell ⟨C, 1, none⟩ u2) := by
  have h1 := h.below (Below.grown (Below.refl _ _) hg (h.lt _ (.head _)) (fun k e => (ho.lt e).1))
  exact ⟨u2, h1.set 1 (by simp) u2, ownsRow_setCell_below ho2 (by simp) u2⟩
set_option maxHeartbeats 2000000 in
theorem collect_any (w0 : World) (C : Nat) (nm : List UInt8) (xs : List Int) (w : World) (id : Int) (a : List UInt8) (h : Col w0 C nm xs w) (hl : xs.length + 1 ≤ 2000000) :
    Calls Try.prog 39 #[.pointer (some ⟨C, 0, none⟩), .int .i64 id, str a] w fun e w' => e = .returned (.tuple #[]) ∧ Col w0 C nm (if a = nm then xs ++ [id] else xs) w' := by
  obtain ⟨u, h1, h2⟩ := h
  have c0 := h1.fact (.head _) (i := 0) rfl
  have c1 := h1.fact (.head _) (i := 1) rfl
  have f1 := h1.free (.head _) (i := 1) rfl
  simp only [] at c0 c1 f1
  unfold str at c0 ⊢
  by_cases e : a = nm
  · rw [if_pos e]
    have z0 : (a == nm) = true := by rw [e]; simp
    have HC := Lib.hid (fun (w' : World) (hw' : w' = w.alloc (.cells #[.int .i64 id] 3)) (w2 : World) (u2 : Value) (ho2 : Own tI (C + 1) w2 u2 (xs ++ [id])) (hg : w'.grownBy w2 u.ownBlock) => Col.add (hw' ▸ h1.alloc _) (hw' ▸ h2.later ((Below.refl _ _).alloc (Nat.le_refl _) _)) ho2 hg)
    have HO3 := Lib.hid (h2.later (w' := w.alloc (.cells #[.int .i64 id] 3)) ((Below.refl _ _).alloc (Nat.le_refl _) _))
    have HR1 := Lib.hid (show Row tI (w.alloc (.cells #[.int .i64 id] 3)) (.slice (some ⟨w.heap.size, 0, none⟩) 1 1) [id] from row_one w 3 id _ rfl)
    have hlt := h1.lt _ (.head _)
    have HB := Lib.hid (show ∀ w2, (w.alloc (.cells #[.int .i64 id] 3)).grownBy w2 u.ownBlock → Below (C + 1) w w2 from fun w2 hg => Below.grown ((Below.refl _ w).alloc (by simp only at hlt; omega) _) hg (by simp at hlt ⊢; omega) (fun k e => (h2.lt e).1))
    have HC1 := Lib.hid h1
    clear e h1 h2
    go_enter Try.func39, Try.ntmps39
    go_wp2_with (at_builtin; refine wpList_append tI_ok rfl _ _ rfl rfl HO3.out rfl HR1.out (by simpa using hl) (by simp at hlt ⊢; omega) ?_)
    intro v' w2 hO6 hG3 _
    obtain ⟨ad, cp, rfl, -, -⟩ := hO6.form
    have HC2 := Lib.hid (HC.out _ rfl w2 _ hO6 hG3)
    have hx := HC1.out.below (HB.out w2 hG3)
    have f2 := hx.free (.head _) (i := 1) rfl
    have c2 := hx.fact (.head _) (i := 1) rfl
    simp only [] at f2 c2
    clear HC HO3 HR1 HB HC1 hO6 hG3 hx c0 c1 f1 hlt
    go_wp2_with fail
    go_end0
    have HC3 := HC2.out
    rw [List.length_append, List.length_singleton] at HC3
    exact ⟨rfl, HC3⟩
  · rw [if_neg e]
    have z0 : (a == nm) = false := by simpa using e
    have HC := Lib.hid (show Col w0 C nm xs w from ⟨u, h1, h2⟩)
    clear e h1 h2
    go_enter Try.func39, Try.ntmps39
    go_wp2_with fail
    go_end0
    exact ⟨rfl, HC.out⟩

/-- The numbers of those with a name. -/
def numsF (fs : List Fc) (nm : List UInt8) : List Int := (fs.filter fun f => decide (f.nm = nm)).map Fc.id
def numsP (fs : List Pl) (nm : List UInt8) : List Int := (fs.filter fun f => decide (f.nm = nm)).map Pl.id
theorem numsF_length (fs : List Fc) (nm : List UInt8) : (numsF fs nm).length ≤ fs.length := by
  unfold numsF; rw [List.length_map]; exact List.length_filter_le _ _
theorem numsF_next {fs : List Fc} {nm : List UInt8} {k : Nat} {p : Fc} (h : fs[k]? = some p) (xs : List Int) : (if p.nm = nm then (xs ++ numsF (fs.take k) nm) ++ [p.id] else xs ++ numsF (fs.take k) nm) = xs ++ numsF (fs.take (k + 1)) nm := by
  obtain ⟨h1, h2⟩ := List.getElem?_eq_some_iff.1 h
  unfold numsF
  rw [List.take_succ_eq_append_getElem h1, List.filter_append, List.map_append, h2]
  by_cases e : p.nm = nm
  · simp [e]
  · simp [e]
theorem numsP_length (fs : List Pl) (nm : List UInt8) : (numsP fs nm).length ≤ fs.length := by
  unfold numsP; rw [List.length_map]; exact List.length_filter_le _ _
theorem numsP_next {fs : List Pl} {nm : List UInt8} {k : Nat} {p : Pl} (h : fs[k]? = some p) (xs : List Int) : (if p.nm = nm then (xs ++ numsP (fs.take k) nm) ++ [p.id] else xs ++ numsP (fs.take k) nm) = xs ++ numsP (fs.take (k + 1)) nm := by
  obtain ⟨h1, h2⟩ := List.getElem?_eq_some_iff.1 h
  unfold numsP
  rw [List.take_succ_eq_append_getElem h1, List.filter_append, List.map_append, h2]
  by_cases e : p.nm = nm
  · simp [e]
  · simp [e]
theorem Row.faces {w : World} {b o n c : Nat} {ps : List Fc} (h : Row tF w (.slice (some ⟨b, o, none⟩) n c) ps) {k : Nat} {p : Fc} (hk : ps[k]? = some p) :
    w.cell? ⟨b, o + k * 5, none⟩ = some ((Fc.cells p)[0]'(by show 0 < 5; decide)) ∧ w.cell? ⟨b, o + k * 5 + 1, none⟩ = some ((Fc.cells p)[1]'(by show 1 < 5; decide)) ∧ w.cell? ⟨b, o + k * 5 + 2, none⟩ = some ((Fc.cells p)[2]'(by show 2 < 5; decide)) ∧ w.cell? ⟨b, o + k * 5 + 3, none⟩ = some ((Fc.cells p)[3]'(by show 3 < 5; decide)) ∧ w.cell? ⟨b, o + k * 5 + 4, none⟩ = some ((Fc.cells p)[4]'(by show 4 < 5; decide)) := by
  obtain ⟨b', o', e, hq⟩ := h.spot tF_ok (by have := (List.getElem?_eq_some_iff.1 hk).1; omega)
  injection e with e; injection e with e1 e2; subst e1; subst e2
  exact ⟨hq k p 0 _ hk rfl, hq k p 1 _ hk rfl, hq k p 2 _ hk rfl, hq k p 3 _ hk rfl, hq k p 4 _ hk rfl⟩
set_option maxRecDepth 100000 in
set_option maxHeartbeats 4000000 in
theorem visit_face (w0 : World) (C : Nat) (v : Value) (fs : List Fc) (nm : List UInt8) (xs : List Int) (w : World) (hv : Row tF w0 v fs) (h : Col w0 C nm xs w) (hl : xs.length + fs.length ≤ 1000000) :
    Calls Try.prog 37 #[v, .func (.func 38) #[] #[], .func (.func 39) #[.pointer (some ⟨C, 0, none⟩)] #[]] w fun e w' => e = .returned (.tuple #[]) ∧ Col w0 C nm (xs ++ numsF fs nm) w' := by
  obtain ⟨a, n, c, rfl, hn, hc1, hc2, hv⟩ := hv.form
  have HV := Lib.hid hv
  have HN := Lib.hid hn
  have HC := Lib.hid h
  clear hv hn h
  go_enter Try.func37, Try.ntmps37
  go_wp2_with fail
  go_loopw [10] (fun i wx => ∃ k : Nat, k ≤ n ∧ i = .int .i64 k ∧ Hid (Col w0 C nm (xs ++ numsF (fs.take k) nm) wx)) (fun i _ => n - (RowKit.intOf i).toNat)
  case atStart => exact ⟨0, Nat.zero_le _, rfl, Lib.hid (by simpa [numsF] using HC.out)⟩
  case round =>
    obtain ⟨k, hk, rfl, HI⟩ := hrel
    by_cases hlt : k < n
    · obtain ⟨p, hkp⟩ : ∃ p, fs[k]? = some p := ⟨_, List.getElem?_eq_getElem (by rw [HN.out]; exact hlt)⟩
      obtain ⟨b, o, rfl, -⟩ := HV.out.spot tF_ok (by rw [HN.out]; omega)
      have hlow : Grows w0 wr := by obtain ⟨u, h1, -⟩ := HI.out; exact h1.low
      obtain ⟨c0, c1, c2, c3, c4⟩ := (HV.out.later hlow).faces hkp
      have HT := Lib.hid (numsF_next (nm := nm) hkp xs)
      have HLen := Lib.hid (show (xs ++ numsF (fs.take k) nm).length + 1 ≤ 2000000 by
        have := numsF_length (fs.take k) nm
        rw [List.length_take] at this
        rw [List.length_append]; omega)
      have b1 : (k : Int) < n := by omega
      have b2 : (0 : Int) ≤ k := by omega
      have HB : Has wr [(wr.heap.size, Fc.cells p)] (wr.alloc (.cells (Fc.cells p).toArray 38)) := has1 _ _
      have HI2 := Lib.hid (HI.out.later (w' := wr.alloc (.cells (Fc.cells p).toArray 38)) ((Below.refl _ _).alloc (Nat.le_refl _) _))
      have HNm := Lib.hid (fun w => faceName_any p w)
      generalize xs ++ numsF (fs.take k) nm = ys at *
      clear hkp hlow HI
      unfold Fc.cells str at HB HI2 HNm
      simp only [Fc.cells, str, List.getElem_cons_zero, List.getElem_cons_succ] at c0 c1 c2 c3 c4
      go_upto_region 3 with fail
      generalize hw2 : wr.alloc _ = w2 at *
      generalize hP : wr.heap.size = P at *
      have d0 := HB.fact (.head _) (i := 0) rfl
      have d1 := HB.fact (.head _) (i := 1) rfl
      have d2 := HB.fact (.head _) (i := 2) rfl
      have d3 := HB.fact (.head _) (i := 3) rfl
      have d4 := HB.fact (.head _) (i := 4) rfl
      simp only [] at d0 d1 d2 d3 d4
      clear c0 c1 c2 c3 c4 hw2 hP HB
      go_wp2_with fail
      refine (HNm.out _).mono ?_
      rintro e w3 ⟨rfl, hL⟩
      have HI3 := Lib.hid (collect_any w0 C nm ys w3 p.id p.nm (HI2.out.later hL.grows) HLen.out)
      rw [HT.out] at HI3
      unfold str at HI3
      clear d0 d1 d2 d3 d4 HI2 HNm hL HLen
      go_wp2_with fail
      refine HI3.out.mono ?_
      rintro e w4 ⟨rfl, hC4⟩
      have HC4 := Lib.hid hC4
      clear HI3 hC4
      go_wp2_with fail
      go_roundw
      case rel => exact ⟨k + 1, by omega, by go_num, HC4⟩
      case measure => simp [RowKit.intOf]; omega
    · obtain rfl : k = n := by omega
      have HTk : fs.take k = fs := List.take_of_length_le (by rw [HN.out]; exact Nat.le_refl _)
      rw [HTk] at HI
      have b1 : ¬ ((k : Int) < k) := by omega
      clear HTk
      go_wp2_with fail
      go_end0
      exact ⟨rfl, HI.out⟩
theorem Row.ways {w : World} {b o n c : Nat} {ps : List Fc} (h : Row tW w (.slice (some ⟨b, o, none⟩) n c) ps) {k : Nat} {p : Fc} (hk : ps[k]? = some p) :
    w.cell? ⟨b, o + k * 8, none⟩ = some ((wcells p)[0]'(by show 0 < 8; decide)) ∧ w.cell? ⟨b, o + k * 8 + 1, none⟩ = some ((wcells p)[1]'(by show 1 < 8; decide)) ∧ w.cell? ⟨b, o + k * 8 + 2, none⟩ = some ((wcells p)[2]'(by show 2 < 8; decide)) ∧ w.cell? ⟨b, o + k * 8 + 3, none⟩ = some ((wcells p)[3]'(by show 3 < 8; decide)) ∧ w.cell? ⟨b, o + k * 8 + 4, none⟩ = some ((wcells p)[4]'(by show 4 < 8; decide)) ∧ w.cell? ⟨b, o + k * 8 + 5, none⟩ = some ((wcells p)[5]'(by show 5 < 8; decide)) ∧ w.cell? ⟨b, o + k * 8 + 6, none⟩ = some ((wcells p)[6]'(by show 6 < 8; decide)) ∧ w.cell? ⟨b, o + k * 8 + 7, none⟩ = some ((wcells p)[7]'(by show 7 < 8; decide)) := by
  obtain ⟨b', o', e, hq⟩ := h.spot tW_ok (by have := (List.getElem?_eq_some_iff.1 hk).1; omega)
  injection e with e; injection e with e1 e2; subst e1; subst e2
  exact ⟨hq k p 0 _ hk rfl, hq k p 1 _ hk rfl, hq k p 2 _ hk rfl, hq k p 3 _ hk rfl, hq k p 4 _ hk rfl, hq k p 5 _ hk rfl, hq k p 6 _ hk rfl, hq k p 7 _ hk rfl⟩
set_option maxRecDepth 100000 in
set_option maxHeartbeats 4000000 in
theorem visit_way (w0 : World) (C : Nat) (v : Value) (fs : List Fc) (nm : List UInt8) (xs : List Int) (w : World) (hv : Row tW w0 v fs) (h : Col w0 C nm xs w) (hl : xs.length + fs.length ≤ 1000000) :
    Calls Try.prog 40 #[v, .func (.func 41) #[] #[], .func (.func 39) #[.pointer (some ⟨C, 0, none⟩)] #[]] w fun e w' => e = .returned (.tuple #[]) ∧ Col w0 C nm (xs ++ numsF fs nm) w' := by
  obtain ⟨a, n, c, rfl, hn, hc1, hc2, hv⟩ := hv.form
  have HV := Lib.hid hv
  have HN := Lib.hid hn
  have HC := Lib.hid h
  clear hv hn h
  go_enter Try.func40, Try.ntmps40
  go_wp2_with fail
  go_loopw [10] (fun i wx => ∃ k : Nat, k ≤ n ∧ i = .int .i64 k ∧ Hid (Col w0 C nm (xs ++ numsF (fs.take k) nm) wx)) (fun i _ => n - (RowKit.intOf i).toNat)
  case atStart => exact ⟨0, Nat.zero_le _, rfl, Lib.hid (by simpa [numsF] using HC.out)⟩
  case round =>
    obtain ⟨k, hk, rfl, HI⟩ := hrel
    by_cases hlt : k < n
    · obtain ⟨p, hkp⟩ : ∃ p, fs[k]? = some p := ⟨_, List.getElem?_eq_getElem (by rw [HN.out]; exact hlt)⟩
      obtain ⟨b, o, rfl, -⟩ := HV.out.spot tW_ok (by rw [HN.out]; omega)
      have hlow : Grows w0 wr := by obtain ⟨u, h1, -⟩ := HI.out; exact h1.low
      obtain ⟨c0, c1, c2, c3, c4, c5, c6, c7⟩ := (HV.out.later hlow).ways hkp
      have HT := Lib.hid (numsF_next (nm := nm) hkp xs)
      have HLen := Lib.hid (show (xs ++ numsF (fs.take k) nm).length + 1 ≤ 2000000 by
        have := numsF_length (fs.take k) nm
        rw [List.length_take] at this
        rw [List.length_append]; omega)
      have b1 : (k : Int) < n := by omega
      have b2 : (0 : Int) ≤ k := by omega
      have HB : Has wr [(wr.heap.size, wcells p)] (wr.alloc (.cells (wcells p).toArray 41)) := has1 _ _
      have HI2 := Lib.hid (HI.out.later (w' := wr.alloc (.cells (wcells p).toArray 41)) ((Below.refl _ _).alloc (Nat.le_refl _) _))
      have HNm := Lib.hid (fun w => wayName_any p w)
      generalize xs ++ numsF (fs.take k) nm = ys at *
      clear hkp hlow HI
      unfold wcells str at HB HI2 HNm
      simp only [wcells, str, List.getElem_cons_zero, List.getElem_cons_succ] at c0 c1 c2 c3 c4 c5 c6 c7
      go_upto_region 3 with fail
      generalize hw2 : wr.alloc _ = w2 at *
      generalize hP : wr.heap.size = P at *
      have d0 := HB.fact (.head _) (i := 0) rfl
      have d1 := HB.fact (.head _) (i := 1) rfl
      have d2 := HB.fact (.head _) (i := 2) rfl
      have d3 := HB.fact (.head _) (i := 3) rfl
      have d4 := HB.fact (.head _) (i := 4) rfl
      have d5 := HB.fact (.head _) (i := 5) rfl
      have d6 := HB.fact (.head _) (i := 6) rfl
      have d7 := HB.fact (.head _) (i := 7) rfl
      simp only [] at d0 d1 d2 d3 d4 d5 d6 d7
      clear c0 c1 c2 c3 c4 c5 c6 c7 hw2 hP HB
      go_wp2_with fail
      refine (HNm.out _).mono ?_
      rintro e w3 ⟨rfl, hL⟩
      have HI3 := Lib.hid (collect_any w0 C nm ys w3 p.id p.nm (HI2.out.later hL.grows) HLen.out)
      rw [HT.out] at HI3
      unfold str at HI3
      clear d0 d1 d2 d3 d4 d5 d6 d7 HI2 HNm hL HLen
      go_wp2_with fail
      refine HI3.out.mono ?_
      rintro e w4 ⟨rfl, hC4⟩
      have HC4 := Lib.hid hC4
      clear HI3 hC4
      go_wp2_with fail
      go_roundw
      case rel => exact ⟨k + 1, by omega, by go_num, HC4⟩
      case measure => simp [RowKit.intOf]; omega
    · obtain rfl : k = n := by omega
      have HTk : fs.take k = fs := List.take_of_length_le (by rw [HN.out]; exact Nat.le_refl _)
      rw [HTk] at HI
      have b1 : ¬ ((k : Int) < k) := by omega
      clear HTk
      go_wp2_with fail
      go_end0
      exact ⟨rfl, HI.out⟩
theorem Row.places {w : World} {b o n c : Nat} {ps : List Pl} (h : Row tP w (.slice (some ⟨b, o, none⟩) n c) ps) {k : Nat} {p : Pl} (hk : ps[k]? = some p) :
    w.cell? ⟨b, o + k * 7, none⟩ = some ((Pl.cells p)[0]'(by show 0 < 7; decide)) ∧ w.cell? ⟨b, o + k * 7 + 1, none⟩ = some ((Pl.cells p)[1]'(by show 1 < 7; decide)) ∧ w.cell? ⟨b, o + k * 7 + 2, none⟩ = some ((Pl.cells p)[2]'(by show 2 < 7; decide)) ∧ w.cell? ⟨b, o + k * 7 + 3, none⟩ = some ((Pl.cells p)[3]'(by show 3 < 7; decide)) ∧ w.cell? ⟨b, o + k * 7 + 4, none⟩ = some ((Pl.cells p)[4]'(by show 4 < 7; decide)) ∧ w.cell? ⟨b, o + k * 7 + 5, none⟩ = some ((Pl.cells p)[5]'(by show 5 < 7; decide)) ∧ w.cell? ⟨b, o + k * 7 + 6, none⟩ = some ((Pl.cells p)[6]'(by show 6 < 7; decide)) := by
  obtain ⟨b', o', e, hq⟩ := h.spot tP_ok (by have := (List.getElem?_eq_some_iff.1 hk).1; omega)
  injection e with e; injection e with e1 e2; subst e1; subst e2
  exact ⟨hq k p 0 _ hk rfl, hq k p 1 _ hk rfl, hq k p 2 _ hk rfl, hq k p 3 _ hk rfl, hq k p 4 _ hk rfl, hq k p 5 _ hk rfl, hq k p 6 _ hk rfl⟩
set_option maxRecDepth 100000 in
set_option maxHeartbeats 4000000 in
theorem visit_place (w0 : World) (C : Nat) (v : Value) (fs : List Pl) (nm : List UInt8) (xs : List Int) (w : World) (hv : Row tP w0 v fs) (h : Col w0 C nm xs w) (hl : xs.length + fs.length ≤ 1000000) :
    Calls Try.prog 42 #[v, .func (.func 43) #[] #[], .func (.func 39) #[.pointer (some ⟨C, 0, none⟩)] #[]] w fun e w' => e = .returned (.tuple #[]) ∧ Col w0 C nm (xs ++ numsP fs nm) w' := by
  obtain ⟨a, n, c, rfl, hn, hc1, hc2, hv⟩ := hv.form
  have HV := Lib.hid hv
  have HN := Lib.hid hn
  have HC := Lib.hid h
  clear hv hn h
  go_enter Try.func42, Try.ntmps42
  go_wp2_with fail
  go_loopw [10] (fun i wx => ∃ k : Nat, k ≤ n ∧ i = .int .i64 k ∧ Hid (Col w0 C nm (xs ++ numsP (fs.take k) nm) wx)) (fun i _ => n - (RowKit.intOf i).toNat)
  case atStart => exact ⟨0, Nat.zero_le _, rfl, Lib.hid (by simpa [numsP] using HC.out)⟩
  case round =>
    obtain ⟨k, hk, rfl, HI⟩ := hrel
    by_cases hlt : k < n
    · obtain ⟨p, hkp⟩ : ∃ p, fs[k]? = some p := ⟨_, List.getElem?_eq_getElem (by rw [HN.out]; exact hlt)⟩
      obtain ⟨b, o, rfl, -⟩ := HV.out.spot tP_ok (by rw [HN.out]; omega)
      have hlow : Grows w0 wr := by obtain ⟨u, h1, -⟩ := HI.out; exact h1.low
      obtain ⟨c0, c1, c2, c3, c4, c5, c6⟩ := (HV.out.later hlow).places hkp
      have HT := Lib.hid (numsP_next (nm := nm) hkp xs)
      have HLen := Lib.hid (show (xs ++ numsP (fs.take k) nm).length + 1 ≤ 2000000 by
        have := numsP_length (fs.take k) nm
        rw [List.length_take] at this
        rw [List.length_append]; omega)
      have b1 : (k : Int) < n := by omega
      have b2 : (0 : Int) ≤ k := by omega
      have HB : Has wr [(wr.heap.size, Pl.cells p)] (wr.alloc (.cells (Pl.cells p).toArray 36)) := has1 _ _
      have HI2 := Lib.hid (HI.out.later (w' := wr.alloc (.cells (Pl.cells p).toArray 36)) ((Below.refl _ _).alloc (Nat.le_refl _) _))
      have HNm := Lib.hid (fun w => placeName_any p w)
      generalize xs ++ numsP (fs.take k) nm = ys at *
      clear hkp hlow HI
      unfold Pl.cells str at HB HI2 HNm
      simp only [Pl.cells, str, List.getElem_cons_zero, List.getElem_cons_succ] at c0 c1 c2 c3 c4 c5 c6
      go_upto_region 3 with fail
      generalize hw2 : wr.alloc _ = w2 at *
      generalize hP : wr.heap.size = P at *
      have d0 := HB.fact (.head _) (i := 0) rfl
      have d1 := HB.fact (.head _) (i := 1) rfl
      have d2 := HB.fact (.head _) (i := 2) rfl
      have d3 := HB.fact (.head _) (i := 3) rfl
      have d4 := HB.fact (.head _) (i := 4) rfl
      have d5 := HB.fact (.head _) (i := 5) rfl
      have d6 := HB.fact (.head _) (i := 6) rfl
      simp only [] at d0 d1 d2 d3 d4 d5 d6
      clear c0 c1 c2 c3 c4 c5 c6 hw2 hP HB
      go_wp2_with fail
      refine (HNm.out _).mono ?_
      rintro e w3 ⟨rfl, hL⟩
      have HI3 := Lib.hid (collect_any w0 C nm ys w3 p.id p.nm (HI2.out.later hL.grows) HLen.out)
      rw [HT.out] at HI3
      unfold str at HI3
      clear d0 d1 d2 d3 d4 d5 d6 HI2 HNm hL HLen
      go_wp2_with fail
      refine HI3.out.mono ?_
      rintro e w4 ⟨rfl, hC4⟩
      have HC4 := Lib.hid hC4
      clear HI3 hC4
      go_wp2_with fail
      go_roundw
      case rel => exact ⟨k + 1, by omega, by go_num, HC4⟩
      case measure => simp [RowKit.intOf]; omega
    · obtain rfl : k = n := by omega
      have HTk : fs.take k = fs := List.take_of_length_le (by rw [HN.out]; exact Nat.le_refl _)
      rw [HTk] at HI
      have b1 : ¬ ((k : Int) < k) := by omega
      clear HTk
      go_wp2_with fail
      go_end0
      exact ⟨rfl, HI.out⟩

end Go.Proofs.Ytiliommilcifeaa
