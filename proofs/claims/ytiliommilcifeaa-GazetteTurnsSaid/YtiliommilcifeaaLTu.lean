/- The walk of GazetteTurns. -/
import Derived.Test.YtiliommilcifeaaA17
import Derived.Test.YtiliommilcifeaaMt
import Derived.Test.YtiliommilcifeaaLPr
namespace Go.Proofs.Ytiliommilcifeaa
open Go.RowKit Go.Lib Go.Sort
attribute [local go_sem] ba_extract

theorem Has.set7 {w0 w : World} {bs : List (Nat × List Value)} {b : Nat} {u0 u1 u2 u3 u4 u5 u6 : Value} (h : Has w0 ((b, [u0, u1, u2, u3, u4, u5, u6]) :: bs) w) (x0 x1 x2 x3 x4 x5 x6 : Value) :
    Has w0 ((b, [x0, x1, x2, x3, x4, x5, x6]) :: bs) (((((((w.setCell ⟨b, 0, none⟩ x0).setCell ⟨b, 1, none⟩ x1).setCell ⟨b, 2, none⟩ x2).setCell ⟨b, 3, none⟩ x3).setCell ⟨b, 4, none⟩ x4).setCell ⟨b, 5, none⟩ x5).setCell ⟨b, 6, none⟩ x6) :=
  ((((((h.set 0 (by simp) x0).set 1 (by simp) x1).set 2 (by simp) x2).set 3 (by simp) x3).set 4 (by simp) x4).set 5 (by simp) x5).set 6 (by simp) x6
theorem flat_set {α : Type} {T : Ty α} (hT : T.Ok) {x x' : α} {j : Nat} {u : Value} (hj : j < T.k) (he : T.enc x' = (T.enc x).set j u) : ∀ {xs : List α} {k : Nat}, xs[k]? = some x → (xs.set k x').flatMap T.enc = (xs.flatMap T.enc).set (k * T.k + j) u
  | [], _, h => by simp at h
  | y :: ys, 0, h => by
    simp only [List.getElem?_cons_zero, Option.some.injEq] at h
    subst h
    rw [List.set_cons_zero, List.flatMap_cons, List.flatMap_cons, he, Nat.zero_mul, Nat.zero_add, List.set_append_left _ _ (by rw [hT.hk]; exact hj)]
  | y :: ys, k + 1, h => by
    rw [List.getElem?_cons_succ] at h
    rw [List.set_cons_succ, List.flatMap_cons, List.flatMap_cons, flat_set hT hj he h, List.set_append_right _ _ (by rw [hT.hk, Nat.succ_mul]; omega), hT.hk, Nat.succ_mul]
    congr 2
    omega
theorem Own.setId {b g n c : Nat} {w : World} {L : List Pl} {k : Nat} {p : Pl} (h : Own tP b w (.slice (some ⟨g, 0, none⟩) n c) L) (hn : L.length = n) (hk : L[k]? = some p) (z : Int) :
    Own tP b (w.setCell ⟨g, k * 7, none⟩ (.int .i64 z)) (.slice (some ⟨g, 0, none⟩) n c) (L.set k { p with id := z }) ∧ w.cell? ⟨g, k * 7, none⟩ = some (.int .i64 p.id) ∧ w.frozen? ⟨g, k * 7, none⟩ = false ∧ b ≤ g := by
  subst hn
  have h0 := World.ownsRow.stored h (k * 7) (.int .i64 z)
  have hk2 := (List.getElem?_eq_some_iff.1 hk).1
  refine ⟨?_, ?_, World.ownsRow.frozenAt h _, (World.ownsRow.lt h g rfl).1⟩
  · unfold Own
    rw [List.length_set, flat_set tP_ok (x := p) (j := 0) (u := .int .i64 z) (by decide) rfl hk]
    exact h0.1
  · rw [World.ownsRow.cellAt h _ (by show k * 7 < L.length * 7; omega)]
    exact flat_at tP_ok (j := 0) hk rfl
theorem Own.addrI {b : Nat} {w : World} {v : Value} {qs : List Int} (h : Own tI b w v qs) {m : Nat} (hm : qs.length = m) : ∃ aa c2, v = .slice aa m c2 ∧ m ≤ c2 ∧ (c2 : Int) ≤ 9223372036854775807 ∧ ((aa = none ∧ c2 = 0) ∨ ∃ gl, aa = some ⟨gl, 0, none⟩) := by
  subst hm
  rcases h.2 with ⟨h1, h2⟩ | ⟨gl, c2, cur, h1, -, -, h3, h4, -⟩
  · exact ⟨none, 0, by rw [h1, h2], by omega, by decide, .inl ⟨rfl, rfl⟩⟩
  · exact ⟨some ⟨gl, 0, none⟩, c2, h1, h3, by unfold maxLen at h4; omega, .inr ⟨gl, rfl⟩⟩
theorem fine_turn {L : List Pl} (h : Fine L) (k : Nat) : Fine (L.drop k ++ L.take k) := ⟨by rw [(turn_perm L k).length_eq]; exact h.1, fun p hp => h.2 p ((turn_perm L k).mem_iff.1 hp)⟩
set_option maxRecDepth 100000 in
set_option maxHeartbeats 16000000 in
theorem turns_any (v : Value) (ps : List Pl) (m1 : Nat) (t : List UInt8) (w : World) (hv : Row tP w v ps) (hg : ∀ p ∈ ps, p.good) (h1 : m1 < 256) (ht : (t.length : Int) ≤ 9223372036854775807) :
    Calls Try.prog 7 #[v, .int .u8 (m1 : Int), str t] w fun e w' => e = .returned (.bool true) ∧ Grows w w' := by
  have HVr := Lib.hid hv
  have hv0 := hv.form
  obtain ⟨a0, n0, c, rfl, -, -, -, -⟩ := hv0
  clear hv
  have HFn := Lib.hid (cutPs_fine ps)
  have HLen := Lib.hid (cutPs_length ps)
  have HPl := Lib.hid (fun w' (g : Grows w w') => places_any _ ps w' (HVr.out.later g) hg)
  generalize cutPs ps = L at *
  have hpf : Fits (t.take 5) := by unfold Fits; rw [List.length_take]; omega
  obtain ⟨t5, ht5⟩ : ∃ t5 : Nat, min (t.length : Int) 5 = (t5 : Int) := ⟨min t.length 5, by omega⟩
  have ht6 : t5 = min t.length 5 := by omega
  have ht7 : (t5 : Int) ≤ t.length := by omega
  have ht8 : (0 : Int) ≤ t5 := by omega
  have HT5 := Lib.hid (show t.take t5 = t.take 5 by
    rw [ht6]
    rcases Nat.le_total t.length 5 with h | h
    · rw [Nat.min_eq_left h, List.take_length, List.take_of_length_le h]
    · rw [Nat.min_eq_right h])
  clear ht6
  unfold str at *
  go_enter Try.func7, Try.ntmps7
  go_wp2_with fail
  refine (sane_any w).mono ?_
  rintro e w1 ⟨rfl, g1⟩
  go_wp2_with fail
  refine (HPl.out _ g1).mono ?_
  rintro e w2 ⟨⟨u, rfl, hO⟩, g2⟩
  have HO0 := Lib.hid (hO.base g1.size)
  have HG := Lib.hid (g1.then g2)
  obtain ⟨n, hn⟩ : ∃ n, L.length = n := ⟨_, rfl⟩
  have HN0 := Lib.hid hn
  obtain ⟨aa, c2, hu, hnc, hc2m, hAA⟩ := hO.addr hn
  have HAA := Lib.hid hAA
  subst hu
  have hn10 := HLen.out
  rw [hn] at hn10
  clear hO g1 g2 HPl HVr hg hn hAA HLen
  go_upto_region 4 with fail
  rw [HT5.out]
  generalize t.take 5 = pre at *
  clear ht5 ht7 ht8 HT5
  go_wp2_with fail
  go_loopw [24] (fun x wx => ∃ k : Nat, k ≤ n ∧ x = .int .i64 k ∧ ∃ Lk : List Pl, Own tP w.heap.size wx (.slice aa n c2) Lk ∧ Hid (Lk.length = n) ∧ Hid (∀ (i : Nat) (p : Pl), i < k → Lk[i]? = some p → p.id = (i : Int)) ∧ Hid (Fine Lk) ∧ Grows w wx) (fun x _ => n - (RowKit.intOf x).toNat)
  case atStart => exact ⟨0, Nat.zero_le _, rfl, L, HO0.out, HN0, Lib.hid (fun i p h => by omega), HFn, HG.out⟩
  case round =>
    obtain ⟨k, hk, rfl, Lk, hO, HN, HId, HFi, hGw⟩ := hrel
    have HO := Lib.hid hO
    have HGw := Lib.hid hGw
    clear hO hGw HO0 HN0 HFn HG
    by_cases hlt : k < n
    · obtain ⟨gl, rfl⟩ : ∃ gl, aa = some ⟨gl, 0, none⟩ := HAA.out.resolve_left (fun h => by omega)
      obtain ⟨p, hp⟩ : ∃ p, Lk[k]? = some p := ⟨_, List.getElem?_eq_getElem (by rw [HN.out]; exact hlt)⟩
      obtain ⟨o1, c0, f0, hgb⟩ := HO.out.setId HN.out hp (k : Int)
      have HO1 := Lib.hid o1
      have HG1 := Lib.hid (show Grows w (wr.setCell ⟨gl, k * 7, none⟩ (.int .i64 (k : Int))) from Below.setCell HGw.out (p := ⟨gl, k * 7, none⟩) hgb _)
      have HN1 := Lib.hid (show (Lk.set k { p with id := (k : Int) }).length = n by rw [List.length_set]; exact HN.out)
      have HId1 := Lib.hid (show ∀ (i : Nat) (q : Pl), i < k + 1 → (Lk.set k { p with id := (k : Int) })[i]? = some q → q.id = (i : Int) from fun i q hi hq => by
        by_cases e : i = k
        · subst e
          rw [List.getElem?_set_self (by rw [HN.out]; exact hlt)] at hq
          cases hq; rfl
        · rw [List.getElem?_set_ne (fun q => e q.symm)] at hq
          exact HId.out i q (by omega) hq)
      have HFi1 := Lib.hid (show Fine (Lk.set k { p with id := (k : Int) }) from ⟨by rw [List.length_set]; exact HFi.out.1, fun q hq => by
        rcases List.mem_or_eq_of_mem_set hq with h | h
        · exact HFi.out.2 q h
        · rw [h]; exact HFi.out.2 p (List.mem_of_getElem? hp)⟩)
      have b1 : (k : Int) < n := by omega
      have b2 : (0 : Int) ≤ k := by omega
      clear hp o1 HId HFi HN HO HGw hgb
      go_wp2_with fail
      go_roundw
      case rel => exact ⟨k + 1, by omega, by go_num, _, HO1.out, HN1, HId1, HFi1, HG1.out⟩
      case measure => simp [RowKit.intOf]; omega
    · obtain rfl : k = n := by omega
      have HNd := Lib.hid (show Numd Lk from fun i p h => HId.out i p (by have := (List.getElem?_eq_some_iff.1 h).1; have := HN.out; omega) h)
      have b1 : ¬ ((k : Int) < k) := by omega
      clear HId
      by_cases h0 : k = 0
      · have z0 : ((k : Int) == 0) = true := by simp; omega
        go_wp2_with fail
        go_ret
        exact ⟨rfl, HGw.out⟩
      · obtain ⟨gl, rfl⟩ : ∃ gl, aa = some ⟨gl, 0, none⟩ := HAA.out.resolve_left (fun h => by omega)
        have z0 : ((k : Int) == 0) = false := by simp; omega
        have z1 : ¬ (k : Int) = 0 := by omega
        obtain ⟨kk, hkk⟩ : ∃ kk, m1 % k = kk := ⟨_, rfl⟩
        have hkn : kk < k := by rw [← hkk]; exact Nat.mod_lt _ (by omega)
        have e1 : Int.tmod (m1 : Int) (k : Int) = (kk : Int) := by rw [tmod_nat, hkk]
        have e2 : (m1 : Int) % (k : Int) = (kk : Int) := by rw [← hkk]; omega
        have HRL := Lib.hid HO.out.row
        generalize wr = wA at *
        have HF1 := Lib.hid (find_any _ Lk pre wA HRL.out HFi.out hpf)
        have HFT := Lib.hid (fun wx vx (hr : Row tP wx vx (Lk.drop kk ++ Lk.take kk)) => found_perm (turn_perm Lk kk) pre ▸ find_any vx (Lk.drop kk ++ Lk.take kk) pre wx hr (fine_turn HFi.out kk) hpf)
        have HFA := Lib.hid (fun i z h => found_at (pre := pre) HNd.out (i := i) (z := z) h)
        have HFX := Lib.hid (fun i y z h g => found_next (pre := pre) HNd.out (i := i) (y := y) (z := z) h g)
        have hFl := found_length Lk pre
        rw [HN.out] at hFl
        generalize found Lk pre = F at *
        clear HAA hkk
        unfold str at HF1 HFT
        go_wp2_with fail
        refine HF1.out.mono ?_
        rintro e wB ⟨⟨uF, rfl, hOF⟩, gF⟩
        obtain ⟨m, hm⟩ : ∃ m, F.length = m := ⟨_, rfl⟩
        obtain ⟨fa, cf, huF, hmc, hcfm, hFA2⟩ := hOF.addrI hm
        have HFA2 := Lib.hid hFA2
        have HML := Lib.hid hm
        subst huF
        have HRF := Lib.hid (show Row tI wB (.slice fa m cf) F from hOF.row)
        have HRL := Lib.hid (HRL.out.later gF)
        have HGB := Lib.hid (HGw.out.then gF)
        rw [hm] at hFl
        clear HF1 hOF gF hFA2 hm HO HGw e1 e2 h1
        generalize wB = wb at *
        have HDr := Lib.hid (show Row tP wb (.slice (some ⟨gl, kk * 7, none⟩) (k - kk) (c2 - kk)) (Lk.drop kk) from HRL.out.droptP kk (by rw [HN.out]; omega) (.inl rfl))
        have HTk := Lib.hid (show Row tP wb (.slice (some ⟨gl, 0, none⟩) kk c2) (Lk.take kk) from HRL.out.take kk (by rw [HN.out]; omega))
        have z2 : ¬ c2 = kk := by omega
        have b3 : (kk : Int) ≤ k := by omega
        have b4 : (0 : Int) ≤ kk := by omega
        go_upto_region 13 with fail
        refine wp_region_held_drew (S := (fun wx => Grows wb wx)) (by kernel_rfl) ((Below.refl _ wb).drew) (fun hHeld => ?_)
        have G : Grows wb wb.drew := (Below.refl _ wb).drew
        generalize wb.drew = w0 at *
        refine wpAnyT_begin [1, 2, 3, 5, 6, 7, 9, 11] (by kernel_rfl) (by kernel_rfl) ?_
        refine wpAnyT_take (oi := ⟨some 46, Op.move (Operand.tmp 0), 26, _, _, none⟩) (v := .slice (some ⟨gl, 0, none⟩) k c2) rfl (fun _ _ _ h => h) (by rfl) (by assumption) (fun wS hSw => ?_) ?_
        · (try dsimp only at hSw); go_simp
        simp only [Act.put, List.setIfInBounds_toArray, List.set_cons_zero, List.set_cons_succ]
        refine wpAnyT_take (oi := ⟨some 47, Op.move (Operand.tmp 9), 3, _, _, none⟩) (v := .int .i64 kk) rfl (fun _ _ _ h => h) (by rfl) (by assumption) (fun wS hSw => ?_) ?_
        · (try dsimp only at hSw); go_simp
        simp only [Act.put, List.setIfInBounds_toArray, List.set_cons_zero, List.set_cons_succ]
        refine wpAnyT_take (oi := ⟨some 48, Op.slice 26 (Operand.tmp 46) (some (Operand.tmp 47)) none none, 26, _, _, none⟩) (v := .slice (some ⟨gl, kk * 7, none⟩) (k - kk) (c2 - kk)) rfl (fun _ _ _ h => h) (by rfl) (by assumption) (fun wS hSw => ?_) ?_
        · (try dsimp only at hSw); go_simp; try (intro h; exfalso; omega)
        simp only [Act.put, List.setIfInBounds_toArray, List.set_cons_zero, List.set_cons_succ]
        refine wpAnyT_take (oi := ⟨some 50, Op.move (Operand.tmp 0), 26, _, _, none⟩) (v := .slice (some ⟨gl, 0, none⟩) k c2) rfl (fun _ _ _ h => h) (by rfl) (by assumption) (fun wS hSw => ?_) ?_
        · (try dsimp only at hSw); go_simp
        simp only [Act.put, List.setIfInBounds_toArray, List.set_cons_zero, List.set_cons_succ]
        refine wpAnyT_take (oi := ⟨some 51, Op.move (Operand.tmp 9), 3, _, _, none⟩) (v := .int .i64 kk) rfl (fun _ _ _ h => h) (by rfl) (by assumption) (fun wS hSw => ?_) ?_
        · (try dsimp only at hSw); go_simp
        simp only [Act.put, List.setIfInBounds_toArray, List.set_cons_zero, List.set_cons_succ]
        refine wpAnyT_take (oi := ⟨some 52, Op.slice 26 (Operand.tmp 50) none (some (Operand.tmp 51)) none, 26, _, _, none⟩) (v := .slice (some ⟨gl, 0, none⟩) kk c2) rfl (fun _ _ _ h => h) (by rfl) (by assumption) (fun wS hSw => ?_) ?_
        · (try dsimp only at hSw); go_simp; try (intro h; exfalso; omega)
        simp only [Act.put, List.setIfInBounds_toArray, List.set_cons_zero, List.set_cons_succ]
        refine wpAnyT_take (oi := ⟨some 54, Op.move (Operand.tmp 2), 9, _, _, none⟩) (v := .string ⟨pre.toArray⟩) rfl (fun _ _ _ h => h) (by rfl) (by assumption) (fun wS hSw => ?_) ?_
        · (try dsimp only at hSw); go_simp
        simp only [Act.put, List.setIfInBounds_toArray, List.set_cons_zero, List.set_cons_succ]
        refine wpAnyT_take (oi := ⟨some 56, Op.move (Operand.tmp 10), 44, _, _, none⟩) (v := .slice fa m cf) rfl (fun _ _ _ h => h) (by rfl) (by assumption) (fun wS hSw => ?_) ?_
        · (try dsimp only at hSw); go_simp
        simp only [Act.put, List.setIfInBounds_toArray, List.set_cons_zero, List.set_cons_succ]
        refine wpAnyT_end ?_
        refine wpAnyH_listed #[false, true, true, true, false, true, true, true, false, true, false, true, false, false] (by kernel_rfl) ?_
        refine wpAnyH_ready (rs := [0]) (by kernel_rfl) (by simp) ?_
        refine AllReadyH.cons (o := ⟨some 45, Op.buildSlice 26 0 #[], 26, _, _, none⟩) rfl (fun K hK => ?_) AllReadyH.nil
        go_simp
        have OA := own_empty (T := tP) (b := wb.heap.size) w0 36 G.size
        have G1 := G.then ((Below.refl _ w0).alloc (Nat.le_refl _) (.cells #[] 36))
        clear G
        generalize w0.alloc (.cells #[] 36) = WA at *
        generalize w0.heap.size = PA at *
        clear hHeld
        refine hK.out _ _ (G1) (fun hHeld => ?_)
        clear hK K
        try simp only [List.setIfInBounds_toArray, List.set_cons_zero]
        refine wpAnyH_listed #[true, true, true, true, false, true, true, true, false, true, false, true, false, false] (by kernel_rfl) ?_
        refine wpAnyH_ready (rs := [4]) (by kernel_rfl) (by simp) ?_
        refine AllReadyH.cons (o := ⟨some 49, Op.call { callee := Callee.builtin Builtin.append, args := #[Operand.tmp 45, Operand.tmp 48], argTypes := #[26, 26] }, 26, _, _, none⟩) rfl (fun K hK => ?_) AllReadyH.nil
        refine step_append tP_ok rfl _ _ rfl rfl OA rfl (HDr.out.later G1) (by simp only [List.length_nil, List.length_drop, HN.out]; omega) G1.size ?_
        intro v1 WB OB hGB _
        have G2 := grow_append G1 OA (Nat.le_refl _) hGB
        rw [List.nil_append] at OB
        clear OA G1 hGB
        clear hHeld
        refine hK.out _ _ (G2) (fun hHeld => ?_)
        clear hK K
        try simp only [List.setIfInBounds_toArray, List.set_cons_zero, List.set_cons_succ]
        refine wpAnyH_listed #[true, true, true, true, true, true, true, true, false, true, false, true, false, false] (by kernel_rfl) ?_
        refine wpAnyH_ready (rs := [8]) (by kernel_rfl) (by simp) ?_
        refine AllReadyH.cons (o := ⟨some 53, Op.call { callee := Callee.builtin Builtin.append, args := #[Operand.tmp 49, Operand.tmp 52], argTypes := #[26, 26] }, 26, _, _, none⟩) rfl (fun K hK => ?_) AllReadyH.nil
        refine step_append tP_ok rfl _ _ rfl rfl OB rfl (HTk.out.later G2) (by simp only [List.length_take, List.length_drop, HN.out]; omega) G2.size ?_
        intro v2 WD OD hGD _
        have G3 := grow_append G2 OB (Nat.le_refl _) hGD
        clear OB G2 hGD
        clear hHeld
        refine hK.out _ _ (G3) (fun hHeld => ?_)
        clear hK K
        try simp only [List.setIfInBounds_toArray, List.set_cons_zero, List.set_cons_succ]
        refine wpAnyH_listed #[true, true, true, true, true, true, true, true, true, true, false, true, false, false] (by kernel_rfl) ?_
        refine wpAnyH_ready (rs := [10]) (by kernel_rfl) (by simp) ?_
        refine AllReadyH.cons (o := ⟨some 55, Op.call { callee := Callee.value (Operand.func 21), args := #[Operand.tmp 53, Operand.tmp 54], argTypes := #[26, 9] }, 44, _, _, none⟩) rfl (fun K hK => ?_) AllReadyH.nil
        go_simp
        go_at_call 21
        refine (HFT.out _ _ OD.row).mono ?_
        rintro e WE ⟨⟨v3, rfl, hO3⟩, g3⟩
        have G4 := G3.then g3
        have R3 := Lib.hid hO3.row
        clear hO3 g3 G3 OD
        go_wp2_with fail
        clear hHeld
        refine hK.out _ _ (G4) (fun hHeld => ?_)
        clear hK K
        try simp only [List.setIfInBounds_toArray, List.set_cons_zero, List.set_cons_succ]
        refine wpAnyH_listed #[true, true, true, true, true, true, true, true, true, true, true, true, false, false] (by kernel_rfl) ?_
        refine wpAnyH_ready (rs := [12]) (by kernel_rfl) (by simp) ?_
        refine AllReadyH.cons (o := ⟨some 57, Op.call { callee := Callee.value (Operand.func 20), args := #[Operand.tmp 55, Operand.tmp 56], argTypes := #[44, 44] }, 4, _, _, none⟩) rfl (fun K hK => ?_) AllReadyH.nil
        go_simp
        go_at_call 20
        refine (same_is _ _ _ _ _ R3.out (HRF.out.later G4) true (by simp)).mono ?_
        rintro e WF ⟨rfl, g4⟩
        have G5 := G4.then g4
        clear g4 G4 R3
        go_wp2_with fail
        clear hHeld
        refine hK.out _ _ (G5) (fun hHeld => ?_)
        clear hK K
        try simp only [List.setIfInBounds_toArray, List.set_cons_zero, List.set_cons_succ]
        refine wpAnyH_listed #[true, true, true, true, true, true, true, true, true, true, true, true, true, false] (by kernel_rfl) ?_
        refine wpAnyT_begin [13] (by kernel_rfl) (by kernel_rfl) ?_
        refine wpAnyT_take (oi := ⟨some 58, Op.unOp UnOp.not 4 (Operand.tmp 57), 4, _, _, none⟩) (v := .bool false) rfl (fun _ _ _ h => h) (by rfl) (by assumption) (fun wS hSw => ?_) ?_
        · (try dsimp only at hSw); go_simp
        simp only [Act.put, List.setIfInBounds_toArray, List.set_cons_zero, List.set_cons_succ]
        refine wpAnyT_end ?_
        refine wpAnyH_listed #[true, true, true, true, true, true, true, true, true, true, true, true, true, true] (by kernel_rfl) ?_
        refine wpAnyH_done (by kernel_rfl) ?_ _
        clear HDr HTk HFT hHeld
        have HG5 := Lib.hid (HGB.out.then G5)
        have HRL := Lib.hid (HRL.out.later G5)
        have HRF := Lib.hid (HRF.out.later G5)
        clear G5 HGB z2 b3 b4
        generalize WF = wB at *
        go_wp2_with fail
        go_loopw [11] (fun x wx => ∃ i : Nat, i ≤ m ∧ x = .int .i64 i ∧ Hid (Grows wB wx)) (fun x _ => m - (RowKit.intOf x).toNat)
        case atStart => exact ⟨0, Nat.zero_le _, rfl, Lib.hid (Below.refl _ _)⟩
        case round =>
          obtain ⟨i, hi, rfl, HW⟩ := hrel
          by_cases hil : i < m
          · obtain ⟨z, hz⟩ : ∃ z, F[i]? = some z := ⟨_, List.getElem?_eq_getElem (by rw [HML.out]; exact hil)⟩
            obtain ⟨j, p, rfl, hj, -⟩ := HFA.out i z hz
            obtain ⟨gf, rfl⟩ : ∃ gf, fa = some ⟨gf, 0, none⟩ := HFA2.out.resolve_left (fun h => by omega)
            have hjk := (List.getElem?_eq_some_iff.1 hj).1
            rw [HN.out] at hjk
            have c0 := (HRF.out.later HW.out).num hz
            rw [Nat.zero_add] at c0
            have b2 : (i : Int) < m := by omega
            have b3 : (0 : Int) ≤ i := by omega
            have b4 : ¬ (j : Int) < 0 := by omega
            have b5 : (j : Int) < k := by omega
            by_cases hi0 : i = 0
            · subst hi0
              clear hz hj
              go_wp2_with fail
              go_roundw
              case rel => exact ⟨1, by omega, by go_num, HW⟩
              case measure => simp [RowKit.intOf]; omega
            · obtain ⟨q, rfl⟩ : ∃ q, i = q + 1 := ⟨i - 1, by omega⟩
              obtain ⟨y, hy⟩ : ∃ y, F[q]? = some y := ⟨_, List.getElem?_eq_getElem (by rw [HML.out]; omega)⟩
              obtain ⟨a, b, pa, pb, hya, hzb, ha, hb, hw1, hw2⟩ := HFX.out q y j hy hz
              obtain rfl : b = j := by omega
              subst hya
              have hbf := HFi.out.2 pb (List.mem_of_getElem? hb)
              have hak := (List.getElem?_eq_some_iff.1 ha).1
              rw [HN.out] at hak
              obtain ⟨⟨aid, ax, ay, acl, anm, aw, ad⟩, hA⟩ : ∃ pa', pa = pa' := ⟨_, rfl⟩
              obtain ⟨⟨bid, bx, by_, bcl, bnm, bw, bd⟩, hB⟩ : ∃ pb', pb = pb' := ⟨_, rfl⟩
              subst hA
              subst hB
              simp only [] at hw1 hw2 hbf
              have HW1 := Lib.hid hw1
              have HW2 := Lib.hid hw2
              generalize wr = wb at *
              have HM := Lib.hid (fun wx (hg : Grows wb wx) => show (wx.cell? ⟨gf, q, none⟩ = some (.int .i64 (a : Int)) ∧ wx.cell? ⟨gf, q + 1, none⟩ = some (.int .i64 (b : Int)) ∧ wx.cell? ⟨gl, a * 7, none⟩ = some (.int .i64 aid) ∧ wx.cell? ⟨gl, a * 7 + 1, none⟩ = some (.int .i64 ax) ∧ wx.cell? ⟨gl, a * 7 + 2, none⟩ = some (.int .i64 ay) ∧ wx.cell? ⟨gl, a * 7 + 3, none⟩ = some (.string ⟨acl.toArray⟩) ∧ wx.cell? ⟨gl, a * 7 + 4, none⟩ = some (.string ⟨anm.toArray⟩) ∧ wx.cell? ⟨gl, a * 7 + 5, none⟩ = some (.int .i64 aw) ∧ wx.cell? ⟨gl, a * 7 + 6, none⟩ = some (.int .i64 ad) ∧ wx.cell? ⟨gl, b * 7, none⟩ = some (.int .i64 bid) ∧ wx.cell? ⟨gl, b * 7 + 1, none⟩ = some (.int .i64 bx) ∧ wx.cell? ⟨gl, b * 7 + 2, none⟩ = some (.int .i64 by_) ∧ wx.cell? ⟨gl, b * 7 + 3, none⟩ = some (.string ⟨bcl.toArray⟩) ∧ wx.cell? ⟨gl, b * 7 + 4, none⟩ = some (.string ⟨bnm.toArray⟩) ∧ wx.cell? ⟨gl, b * 7 + 5, none⟩ = some (.int .i64 bw) ∧ wx.cell? ⟨gl, b * 7 + 6, none⟩ = some (.int .i64 bd)) ∧ Grows wb wx from by
                have hF := HRF.out.later (Grows.then HW.out hg)
                have hL := HRL.out.later (Grows.then HW.out hg)
                have e1 := hF.num hy
                have e2 := hF.num hz
                obtain ⟨s0, s1, s2, s3, s4, s5, s6⟩ := hL.place ha
                obtain ⟨r0, r1, r2, r3, r4, r5, r6⟩ := hL.place hb
                rw [Nat.zero_add] at e1 e2 s0 s1 s2 s3 s4 s5 s6 r0 r1 r2 r3 r4 r5 r6
                exact ⟨⟨e1, e2, s0, s1, s2, s3, s4, s5, s6, r0, r1, r2, r3, r4, r5, r6⟩, hg⟩)
              clear hy hz hj ha hb hw1 hw2
              obtain ⟨i1, hi1⟩ : ∃ i1, q + 1 = i1 := ⟨_, rfl⟩
              rw [hi1] at c0 b2 b3 hi hil hi0 HM ⊢
              have z3 : ((i1 : Int) == 0) = false := by simp; omega
              have e5 : (i1 : Int) - 1 = (q : Int) := by omega
              have lw : IntKind.i64.wrap (q : Int) = (q : Int) := by rw [IntKind.wrap_i64]; omega
              have b6 : (0 : Int) ≤ q := by omega
              have b7 : (q : Int) < m := by omega
              have b8 : (0 : Int) ≤ a := by omega
              have b9 : (a : Int) < k := by omega
              have b10 : (0 : Int) ≤ b := by omega
              clear hi0 hi1
              go_upto_region 21 with fail
              clear c0 z3
              go_cut [12, 13] (fun v1 v2 wx => ∃ PA PB : Nat, v1 = .pointer (some ⟨PA, 0, none⟩) ∧ v2 = .pointer (some ⟨PB, 0, none⟩) ∧ Hid (Has wb [(PB, [.int .i64 bid, .int .i64 bx, .int .i64 by_, .string ⟨bcl.toArray⟩, .string ⟨bnm.toArray⟩, .int .i64 bw, .int .i64 bd]), (PA, [.int .i64 aid, .int .i64 ax, .int .i64 ay, .string ⟨acl.toArray⟩, .string ⟨anm.toArray⟩, .int .i64 aw, .int .i64 ad])] wx))
              case first =>
                clear HW1 HW2
                refine wp_region_held_drew (S := (fun wx => (wx.cell? ⟨gf, q, none⟩ = some (.int .i64 (a : Int)) ∧ wx.cell? ⟨gf, i1, none⟩ = some (.int .i64 (b : Int)) ∧ wx.cell? ⟨gl, a * 7, none⟩ = some (.int .i64 aid) ∧ wx.cell? ⟨gl, a * 7 + 1, none⟩ = some (.int .i64 ax) ∧ wx.cell? ⟨gl, a * 7 + 2, none⟩ = some (.int .i64 ay) ∧ wx.cell? ⟨gl, a * 7 + 3, none⟩ = some (.string ⟨acl.toArray⟩) ∧ wx.cell? ⟨gl, a * 7 + 4, none⟩ = some (.string ⟨anm.toArray⟩) ∧ wx.cell? ⟨gl, a * 7 + 5, none⟩ = some (.int .i64 aw) ∧ wx.cell? ⟨gl, a * 7 + 6, none⟩ = some (.int .i64 ad) ∧ wx.cell? ⟨gl, b * 7, none⟩ = some (.int .i64 bid) ∧ wx.cell? ⟨gl, b * 7 + 1, none⟩ = some (.int .i64 bx) ∧ wx.cell? ⟨gl, b * 7 + 2, none⟩ = some (.int .i64 by_) ∧ wx.cell? ⟨gl, b * 7 + 3, none⟩ = some (.string ⟨bcl.toArray⟩) ∧ wx.cell? ⟨gl, b * 7 + 4, none⟩ = some (.string ⟨bnm.toArray⟩) ∧ wx.cell? ⟨gl, b * 7 + 5, none⟩ = some (.int .i64 bw) ∧ wx.cell? ⟨gl, b * 7 + 6, none⟩ = some (.int .i64 bd)) ∧ Grows wb wx)) (by kernel_rfl) (HM.out _ (Below.refl _ wb).drew) (fun hHeld => ?_)
                have H0 : Has wb [] wb.drew := Has.nil (Below.refl _ wb).drew
                generalize wb.drew = w0 at *
                refine wpAnyT_begin [0, 1, 2, 3, 4, 5, 6, 7, 8, 9, 10, 11, 12, 13, 14] (by kernel_rfl) (by kernel_rfl) ?_
                refine wpAnyT_take (oi := ⟨some 81, Op.move (Operand.tmp 0), 26, _, _, none⟩) (v := .slice (some ⟨gl, 0, none⟩) k c2) rfl (fun _ _ _ h => h) (by rfl) (by assumption) (fun wS hSw => ?_) ?_
                · (try dsimp only at hSw); go_simp
                simp only [Act.put, List.setIfInBounds_toArray, List.set_cons_zero, List.set_cons_succ]
                refine wpAnyT_take (oi := ⟨some 82, Op.move (Operand.tmp 10), 44, _, _, none⟩) (v := .slice (some ⟨gf, 0, none⟩) m cf) rfl (fun _ _ _ h => h) (by rfl) (by assumption) (fun wS hSw => ?_) ?_
                · (try dsimp only at hSw); go_simp
                simp only [Act.put, List.setIfInBounds_toArray, List.set_cons_zero, List.set_cons_succ]
                refine wpAnyT_take (oi := ⟨some 83, Op.move (Operand.tmp 11), 3, _, _, none⟩) (v := .int .i64 i1) rfl (fun _ _ _ h => h) (by rfl) (by assumption) (fun wS hSw => ?_) ?_
                · (try dsimp only at hSw); go_simp
                simp only [Act.put, List.setIfInBounds_toArray, List.set_cons_zero, List.set_cons_succ]
                refine wpAnyT_take (oi := ⟨some 84, Op.binOp BinOp.sub 3 (Operand.tmp 83) (Operand.const (Value.int IntKind.i64 1)) 3, 3, _, _, none⟩) (v := .int .i64 q) rfl (fun _ _ _ h => h) (by rfl) (by assumption) (fun wS hSw => ?_) ?_
                · (try dsimp only at hSw); go_simp
                simp only [Act.put, List.setIfInBounds_toArray, List.set_cons_zero, List.set_cons_succ]
                refine wpAnyT_take (oi := ⟨some 85, Op.indexAddr 44 (Operand.tmp 82) (Operand.tmp 84), 0, _, _, none⟩) (v := .pointer (some ⟨gf, q, none⟩)) rfl (fun _ _ _ h => h) (by rfl) (by assumption) (fun wS hSw => ?_) ?_
                · (try dsimp only at hSw); go_simp
                simp only [Act.put, List.setIfInBounds_toArray, List.set_cons_zero, List.set_cons_succ]
                refine wpAnyT_take (oi := ⟨some 86, Op.load 3 (Operand.tmp 85), 3, _, _, none⟩) (v := .int .i64 a) rfl (fun _ _ _ h => h) (by rfl) (by assumption) (fun wS hSw => ?_) ?_
                · (try dsimp only at hSw); go_simp
                simp only [Act.put, List.setIfInBounds_toArray, List.set_cons_zero, List.set_cons_succ]
                refine wpAnyT_take (oi := ⟨some 87, Op.indexAddr 26 (Operand.tmp 81) (Operand.tmp 86), 0, _, _, none⟩) (v := .pointer (some ⟨gl, a * 7, none⟩)) rfl (fun _ _ _ h => h) (by rfl) (by assumption) (fun wS hSw => ?_) ?_
                · (try dsimp only at hSw); go_simp
                simp only [Act.put, List.setIfInBounds_toArray, List.set_cons_zero, List.set_cons_succ]
                refine wpAnyT_take (oi := ⟨some 88, Op.load 36 (Operand.tmp 87), 36, _, _, none⟩) (v := .agg #[.int .i64 aid, .int .i64 ax, .int .i64 ay, .string ⟨acl.toArray⟩, .string ⟨anm.toArray⟩, .int .i64 aw, .int .i64 ad]) rfl (fun _ _ _ h => h) (by rfl) (by assumption) (fun wS hSw => ?_) ?_
                · (try dsimp only at hSw); go_simp
                simp only [Act.put, List.setIfInBounds_toArray, List.set_cons_zero, List.set_cons_succ]
                refine wpAnyT_take (oi := ⟨some 89, Op.move (Operand.tmp 0), 26, _, _, none⟩) (v := .slice (some ⟨gl, 0, none⟩) k c2) rfl (fun _ _ _ h => h) (by rfl) (by assumption) (fun wS hSw => ?_) ?_
                · (try dsimp only at hSw); go_simp
                simp only [Act.put, List.setIfInBounds_toArray, List.set_cons_zero, List.set_cons_succ]
                refine wpAnyT_take (oi := ⟨some 90, Op.move (Operand.tmp 10), 44, _, _, none⟩) (v := .slice (some ⟨gf, 0, none⟩) m cf) rfl (fun _ _ _ h => h) (by rfl) (by assumption) (fun wS hSw => ?_) ?_
                · (try dsimp only at hSw); go_simp
                simp only [Act.put, List.setIfInBounds_toArray, List.set_cons_zero, List.set_cons_succ]
                refine wpAnyT_take (oi := ⟨some 91, Op.move (Operand.tmp 11), 3, _, _, none⟩) (v := .int .i64 i1) rfl (fun _ _ _ h => h) (by rfl) (by assumption) (fun wS hSw => ?_) ?_
                · (try dsimp only at hSw); go_simp
                simp only [Act.put, List.setIfInBounds_toArray, List.set_cons_zero, List.set_cons_succ]
                refine wpAnyT_take (oi := ⟨some 92, Op.indexAddr 44 (Operand.tmp 90) (Operand.tmp 91), 0, _, _, none⟩) (v := .pointer (some ⟨gf, i1, none⟩)) rfl (fun _ _ _ h => h) (by rfl) (by assumption) (fun wS hSw => ?_) ?_
                · (try dsimp only at hSw); go_simp
                simp only [Act.put, List.setIfInBounds_toArray, List.set_cons_zero, List.set_cons_succ]
                refine wpAnyT_take (oi := ⟨some 93, Op.load 3 (Operand.tmp 92), 3, _, _, none⟩) (v := .int .i64 b) rfl (fun _ _ _ h => h) (by rfl) (by assumption) (fun wS hSw => ?_) ?_
                · (try dsimp only at hSw); go_simp
                simp only [Act.put, List.setIfInBounds_toArray, List.set_cons_zero, List.set_cons_succ]
                refine wpAnyT_take (oi := ⟨some 94, Op.indexAddr 26 (Operand.tmp 89) (Operand.tmp 93), 0, _, _, none⟩) (v := .pointer (some ⟨gl, b * 7, none⟩)) rfl (fun _ _ _ h => h) (by rfl) (by assumption) (fun wS hSw => ?_) ?_
                · (try dsimp only at hSw); go_simp
                simp only [Act.put, List.setIfInBounds_toArray, List.set_cons_zero, List.set_cons_succ]
                refine wpAnyT_take (oi := ⟨some 95, Op.load 36 (Operand.tmp 94), 36, _, _, none⟩) (v := .agg #[.int .i64 bid, .int .i64 bx, .int .i64 by_, .string ⟨bcl.toArray⟩, .string ⟨bnm.toArray⟩, .int .i64 bw, .int .i64 bd]) rfl (fun _ _ _ h => h) (by rfl) (by assumption) (fun wS hSw => ?_) ?_
                · (try dsimp only at hSw); go_simp
                simp only [Act.put, List.setIfInBounds_toArray, List.set_cons_zero, List.set_cons_succ]
                refine wpAnyT_end ?_
                refine wpAnyH_listed #[true, true, true, true, true, true, true, true, true, true, true, true, true, true, true, false, false, false, false] (by kernel_rfl) ?_
                refine wpAnyH_ready (rs := [15, 16]) (by kernel_rfl) (by simp) ?_
                refine AllReadyH.cons (o := ⟨some 12, Op.alloc 36, 0, _, _, none⟩) rfl (fun K hK => ?_) ?_
                · go_simp
                  have H0n := H0.push [.int .i64 0, .int .i64 0, .int .i64 0, .string ⟨(#[] : Array UInt8)⟩, .string ⟨(#[] : Array UInt8)⟩, .int .i64 0, .int .i64 0] 36
                  change Has wb _ (w0.alloc (.cells #[.int .i64 0, .int .i64 0, .int .i64 0, .string ⟨(#[] : Array UInt8)⟩, .string ⟨(#[] : Array UInt8)⟩, .int .i64 0, .int .i64 0] 36)) at H0n
                  obtain ⟨PA, hPA⟩ : ∃ PA, w0.heap.size = PA := ⟨_, rfl⟩
                  rw [hPA] at H0n ⊢
                  generalize w0.alloc (.cells #[.int .i64 0, .int .i64 0, .int .i64 0, .string ⟨(#[] : Array UInt8)⟩, .string ⟨(#[] : Array UInt8)⟩, .int .i64 0, .int .i64 0] 36) = WA at *
                  clear hPA H0
                  have H0 := H0n
                  clear H0n
                  clear hHeld
                  refine hK.out _ _ (HM.out _ H0.low) (fun hHeld => ?_)
                  clear hK K
                  try simp only [List.setIfInBounds_toArray, List.set_cons_zero, List.set_cons_succ]
                  refine wpAnyH_listed #[true, true, true, true, true, true, true, true, true, true, true, true, true, true, true, true, false, false, false] (by kernel_rfl) ?_
                  refine wpAnyH_ready (rs := [16]) (by kernel_rfl) (by simp) ?_
                  refine AllReadyH.cons (o := ⟨some 13, Op.alloc 36, 0, _, _, none⟩) rfl (fun K hK => ?_) AllReadyH.nil
                  go_simp
                  have H0n := H0.push [.int .i64 0, .int .i64 0, .int .i64 0, .string ⟨(#[] : Array UInt8)⟩, .string ⟨(#[] : Array UInt8)⟩, .int .i64 0, .int .i64 0] 36
                  change Has wb _ (WA.alloc (.cells #[.int .i64 0, .int .i64 0, .int .i64 0, .string ⟨(#[] : Array UInt8)⟩, .string ⟨(#[] : Array UInt8)⟩, .int .i64 0, .int .i64 0] 36)) at H0n
                  obtain ⟨PB, hPB⟩ : ∃ PB, WA.heap.size = PB := ⟨_, rfl⟩
                  rw [hPB] at H0n ⊢
                  generalize WA.alloc (.cells #[.int .i64 0, .int .i64 0, .int .i64 0, .string ⟨(#[] : Array UInt8)⟩, .string ⟨(#[] : Array UInt8)⟩, .int .i64 0, .int .i64 0] 36) = WB at *
                  clear hPB H0
                  have H0 := H0n
                  clear H0n
                  clear hHeld
                  refine hK.out _ _ (HM.out _ H0.low) (fun hHeld => ?_)
                  clear hK K
                  try simp only [List.setIfInBounds_toArray, List.set_cons_zero, List.set_cons_succ]
                  refine wpAnyH_listed #[true, true, true, true, true, true, true, true, true, true, true, true, true, true, true, true, true, false, false] (by kernel_rfl) ?_
                  refine wpAnyH_ready (rs := [17]) (by kernel_rfl) (by simp) ?_
                  refine AllReadyH.cons (o := ⟨none, Op.store 36 (Operand.tmp 12) (Operand.tmp 88), 0, _, _, none⟩) rfl (fun K hK => ?_) AllReadyH.nil
                  have H0 := H0.swap
                  have k0 := H0.fact (.head _) (i := 0) rfl
                  have f0 := H0.free (.head _) (i := 0) rfl
                  have k1 := H0.fact (.head _) (i := 1) rfl
                  have f1 := H0.free (.head _) (i := 1) rfl
                  have k2 := H0.fact (.head _) (i := 2) rfl
                  have f2 := H0.free (.head _) (i := 2) rfl
                  have k3 := H0.fact (.head _) (i := 3) rfl
                  have f3 := H0.free (.head _) (i := 3) rfl
                  have k4 := H0.fact (.head _) (i := 4) rfl
                  have f4 := H0.free (.head _) (i := 4) rfl
                  have k5 := H0.fact (.head _) (i := 5) rfl
                  have f5 := H0.free (.head _) (i := 5) rfl
                  have k6 := H0.fact (.head _) (i := 6) rfl
                  have f6 := H0.free (.head _) (i := 6) rfl
                  simp only [] at k0 f0 k1 f1 k2 f2 k3 f3 k4 f4 k5 f5 k6 f6
                  have H1 := H0.set7 (.int .i64 aid) (.int .i64 ax) (.int .i64 ay) (.string ⟨acl.toArray⟩) (.string ⟨anm.toArray⟩) (.int .i64 aw) (.int .i64 ad)
                  go_simp
                  clear k0 f0 k1 f1 k2 f2 k3 f3 k4 f4 k5 f5 k6 f6
                  clear H0
                  have H0 := H1
                  clear H1
                  generalize (((((((WB.setCell ⟨PA, 0, none⟩ (.int .i64 aid)).setCell ⟨PA, 1, none⟩ (.int .i64 ax)).setCell ⟨PA, 2, none⟩ (.int .i64 ay)).setCell ⟨PA, 3, none⟩ (.string ⟨acl.toArray⟩)).setCell ⟨PA, 4, none⟩ (.string ⟨anm.toArray⟩)).setCell ⟨PA, 5, none⟩ (.int .i64 aw)).setCell ⟨PA, 6, none⟩ (.int .i64 ad)) = WX at *
                  clear hHeld
                  refine hK.out _ _ (HM.out _ H0.low) (fun hHeld => ?_)
                  clear hK K
                  try simp only [List.setIfInBounds_toArray, List.set_cons_zero, List.set_cons_succ]
                  refine wpAnyH_listed #[true, true, true, true, true, true, true, true, true, true, true, true, true, true, true, true, true, true, false] (by kernel_rfl) ?_
                  refine wpAnyH_ready (rs := [18]) (by kernel_rfl) (by simp) ?_
                  refine AllReadyH.cons (o := ⟨none, Op.store 36 (Operand.tmp 13) (Operand.tmp 95), 0, _, _, none⟩) rfl (fun K hK => ?_) AllReadyH.nil
                  have H0 := H0.swap
                  have k0 := H0.fact (.head _) (i := 0) rfl
                  have f0 := H0.free (.head _) (i := 0) rfl
                  have k1 := H0.fact (.head _) (i := 1) rfl
                  have f1 := H0.free (.head _) (i := 1) rfl
                  have k2 := H0.fact (.head _) (i := 2) rfl
                  have f2 := H0.free (.head _) (i := 2) rfl
                  have k3 := H0.fact (.head _) (i := 3) rfl
                  have f3 := H0.free (.head _) (i := 3) rfl
                  have k4 := H0.fact (.head _) (i := 4) rfl
                  have f4 := H0.free (.head _) (i := 4) rfl
                  have k5 := H0.fact (.head _) (i := 5) rfl
                  have f5 := H0.free (.head _) (i := 5) rfl
                  have k6 := H0.fact (.head _) (i := 6) rfl
                  have f6 := H0.free (.head _) (i := 6) rfl
                  simp only [] at k0 f0 k1 f1 k2 f2 k3 f3 k4 f4 k5 f5 k6 f6
                  have H1 := H0.set7 (.int .i64 bid) (.int .i64 bx) (.int .i64 by_) (.string ⟨bcl.toArray⟩) (.string ⟨bnm.toArray⟩) (.int .i64 bw) (.int .i64 bd)
                  go_simp
                  clear k0 f0 k1 f1 k2 f2 k3 f3 k4 f4 k5 f5 k6 f6
                  clear H0
                  have H0 := H1
                  clear H1
                  generalize (((((((WX.setCell ⟨PB, 0, none⟩ (.int .i64 bid)).setCell ⟨PB, 1, none⟩ (.int .i64 bx)).setCell ⟨PB, 2, none⟩ (.int .i64 by_)).setCell ⟨PB, 3, none⟩ (.string ⟨bcl.toArray⟩)).setCell ⟨PB, 4, none⟩ (.string ⟨bnm.toArray⟩)).setCell ⟨PB, 5, none⟩ (.int .i64 bw)).setCell ⟨PB, 6, none⟩ (.int .i64 bd)) = WY at *
                  clear hHeld
                  refine hK.out _ _ (HM.out _ H0.low) (fun hHeld => ?_)
                  clear hK K
                  try simp only [List.setIfInBounds_toArray, List.set_cons_zero, List.set_cons_succ]
                  refine wpAnyH_listed #[true, true, true, true, true, true, true, true, true, true, true, true, true, true, true, true, true, true, true] (by kernel_rfl) ?_
                  refine wpAnyH_done (by kernel_rfl) ?_ _
                  clear hHeld
                  go_wp2_with fail
                  go_meet
                  exact ⟨PA, PB, rfl, rfl, Lib.hid H0⟩
                refine AllReadyH.cons (o := ⟨some 13, Op.alloc 36, 0, _, _, none⟩) rfl (fun K hK => ?_) AllReadyH.nil
                go_simp
                have H0n := H0.push [.int .i64 0, .int .i64 0, .int .i64 0, .string ⟨(#[] : Array UInt8)⟩, .string ⟨(#[] : Array UInt8)⟩, .int .i64 0, .int .i64 0] 36
                change Has wb _ (w0.alloc (.cells #[.int .i64 0, .int .i64 0, .int .i64 0, .string ⟨(#[] : Array UInt8)⟩, .string ⟨(#[] : Array UInt8)⟩, .int .i64 0, .int .i64 0] 36)) at H0n
                obtain ⟨PB, hPB⟩ : ∃ PB, w0.heap.size = PB := ⟨_, rfl⟩
                rw [hPB] at H0n ⊢
                generalize w0.alloc (.cells #[.int .i64 0, .int .i64 0, .int .i64 0, .string ⟨(#[] : Array UInt8)⟩, .string ⟨(#[] : Array UInt8)⟩, .int .i64 0, .int .i64 0] 36) = WA at *
                clear hPB H0
                have H0 := H0n
                clear H0n
                clear hHeld
                refine hK.out _ _ (HM.out _ H0.low) (fun hHeld => ?_)
                clear hK K
                try simp only [List.setIfInBounds_toArray, List.set_cons_zero, List.set_cons_succ]
                refine wpAnyH_listed #[true, true, true, true, true, true, true, true, true, true, true, true, true, true, true, false, true, false, false] (by kernel_rfl) ?_
                refine wpAnyH_ready (rs := [15]) (by kernel_rfl) (by simp) ?_
                refine AllReadyH.cons (o := ⟨some 12, Op.alloc 36, 0, _, _, none⟩) rfl (fun K hK => ?_) AllReadyH.nil
                go_simp
                have H0n := H0.push [.int .i64 0, .int .i64 0, .int .i64 0, .string ⟨(#[] : Array UInt8)⟩, .string ⟨(#[] : Array UInt8)⟩, .int .i64 0, .int .i64 0] 36
                change Has wb _ (WA.alloc (.cells #[.int .i64 0, .int .i64 0, .int .i64 0, .string ⟨(#[] : Array UInt8)⟩, .string ⟨(#[] : Array UInt8)⟩, .int .i64 0, .int .i64 0] 36)) at H0n
                obtain ⟨PA, hPA⟩ : ∃ PA, WA.heap.size = PA := ⟨_, rfl⟩
                rw [hPA] at H0n ⊢
                generalize WA.alloc (.cells #[.int .i64 0, .int .i64 0, .int .i64 0, .string ⟨(#[] : Array UInt8)⟩, .string ⟨(#[] : Array UInt8)⟩, .int .i64 0, .int .i64 0] 36) = WB at *
                clear hPA H0
                have H0 := H0n
                clear H0n
                clear hHeld
                refine hK.out _ _ (HM.out _ H0.low) (fun hHeld => ?_)
                clear hK K
                try simp only [List.setIfInBounds_toArray, List.set_cons_zero, List.set_cons_succ]
                refine wpAnyH_listed #[true, true, true, true, true, true, true, true, true, true, true, true, true, true, true, true, true, false, false] (by kernel_rfl) ?_
                refine wpAnyH_ready (rs := [17]) (by kernel_rfl) (by simp) ?_
                refine AllReadyH.cons (o := ⟨none, Op.store 36 (Operand.tmp 12) (Operand.tmp 88), 0, _, _, none⟩) rfl (fun K hK => ?_) AllReadyH.nil
                have k0 := H0.fact (.head _) (i := 0) rfl
                have f0 := H0.free (.head _) (i := 0) rfl
                have k1 := H0.fact (.head _) (i := 1) rfl
                have f1 := H0.free (.head _) (i := 1) rfl
                have k2 := H0.fact (.head _) (i := 2) rfl
                have f2 := H0.free (.head _) (i := 2) rfl
                have k3 := H0.fact (.head _) (i := 3) rfl
                have f3 := H0.free (.head _) (i := 3) rfl
                have k4 := H0.fact (.head _) (i := 4) rfl
                have f4 := H0.free (.head _) (i := 4) rfl
                have k5 := H0.fact (.head _) (i := 5) rfl
                have f5 := H0.free (.head _) (i := 5) rfl
                have k6 := H0.fact (.head _) (i := 6) rfl
                have f6 := H0.free (.head _) (i := 6) rfl
                simp only [] at k0 f0 k1 f1 k2 f2 k3 f3 k4 f4 k5 f5 k6 f6
                have H1 := H0.set7 (.int .i64 aid) (.int .i64 ax) (.int .i64 ay) (.string ⟨acl.toArray⟩) (.string ⟨anm.toArray⟩) (.int .i64 aw) (.int .i64 ad)
                go_simp
                clear k0 f0 k1 f1 k2 f2 k3 f3 k4 f4 k5 f5 k6 f6
                clear H0
                have H0 := H1
                clear H1
                generalize (((((((WB.setCell ⟨PA, 0, none⟩ (.int .i64 aid)).setCell ⟨PA, 1, none⟩ (.int .i64 ax)).setCell ⟨PA, 2, none⟩ (.int .i64 ay)).setCell ⟨PA, 3, none⟩ (.string ⟨acl.toArray⟩)).setCell ⟨PA, 4, none⟩ (.string ⟨anm.toArray⟩)).setCell ⟨PA, 5, none⟩ (.int .i64 aw)).setCell ⟨PA, 6, none⟩ (.int .i64 ad)) = WX at *
                clear hHeld
                refine hK.out _ _ (HM.out _ H0.low) (fun hHeld => ?_)
                clear hK K
                try simp only [List.setIfInBounds_toArray, List.set_cons_zero, List.set_cons_succ]
                refine wpAnyH_listed #[true, true, true, true, true, true, true, true, true, true, true, true, true, true, true, true, true, true, false] (by kernel_rfl) ?_
                refine wpAnyH_ready (rs := [18]) (by kernel_rfl) (by simp) ?_
                refine AllReadyH.cons (o := ⟨none, Op.store 36 (Operand.tmp 13) (Operand.tmp 95), 0, _, _, none⟩) rfl (fun K hK => ?_) AllReadyH.nil
                have H0 := H0.swap
                have k0 := H0.fact (.head _) (i := 0) rfl
                have f0 := H0.free (.head _) (i := 0) rfl
                have k1 := H0.fact (.head _) (i := 1) rfl
                have f1 := H0.free (.head _) (i := 1) rfl
                have k2 := H0.fact (.head _) (i := 2) rfl
                have f2 := H0.free (.head _) (i := 2) rfl
                have k3 := H0.fact (.head _) (i := 3) rfl
                have f3 := H0.free (.head _) (i := 3) rfl
                have k4 := H0.fact (.head _) (i := 4) rfl
                have f4 := H0.free (.head _) (i := 4) rfl
                have k5 := H0.fact (.head _) (i := 5) rfl
                have f5 := H0.free (.head _) (i := 5) rfl
                have k6 := H0.fact (.head _) (i := 6) rfl
                have f6 := H0.free (.head _) (i := 6) rfl
                simp only [] at k0 f0 k1 f1 k2 f2 k3 f3 k4 f4 k5 f5 k6 f6
                have H1 := H0.set7 (.int .i64 bid) (.int .i64 bx) (.int .i64 by_) (.string ⟨bcl.toArray⟩) (.string ⟨bnm.toArray⟩) (.int .i64 bw) (.int .i64 bd)
                go_simp
                clear k0 f0 k1 f1 k2 f2 k3 f3 k4 f4 k5 f5 k6 f6
                clear H0
                have H0 := H1
                clear H1
                generalize (((((((WX.setCell ⟨PB, 0, none⟩ (.int .i64 bid)).setCell ⟨PB, 1, none⟩ (.int .i64 bx)).setCell ⟨PB, 2, none⟩ (.int .i64 by_)).setCell ⟨PB, 3, none⟩ (.string ⟨bcl.toArray⟩)).setCell ⟨PB, 4, none⟩ (.string ⟨bnm.toArray⟩)).setCell ⟨PB, 5, none⟩ (.int .i64 bw)).setCell ⟨PB, 6, none⟩ (.int .i64 bd)) = WY at *
                clear hHeld
                refine hK.out _ _ (HM.out _ H0.low) (fun hHeld => ?_)
                clear hK K
                try simp only [List.setIfInBounds_toArray, List.set_cons_zero, List.set_cons_succ]
                refine wpAnyH_listed #[true, true, true, true, true, true, true, true, true, true, true, true, true, true, true, true, true, true, true] (by kernel_rfl) ?_
                refine wpAnyH_done (by kernel_rfl) ?_ _
                clear hHeld
                go_wp2_with fail
                go_meet
                exact ⟨PA, PB, rfl, rfl, Lib.hid H0⟩
              case rest =>
                obtain ⟨PA, PB, rfl, rfl, H⟩ := hcut
                have s0 := H.out.tail.fact (.head _) (i := 0) rfl
                have s4 := H.out.tail.fact (.head _) (i := 4) rfl
                have s5 := H.out.tail.fact (.head _) (i := 5) rfl
                have r0 := H.out.fact (.head _) (i := 0) rfl
                have r4 := H.out.fact (.head _) (i := 4) rfl
                have r5 := H.out.fact (.head _) (i := 5) rfl
                simp only [] at s0 s4 s5 r0 r4 r5
                have HGn := Lib.hid (Grows.then HW.out H.out.low)
                have u1 : decide (aw < bw) = false := decide_eq_false (by have := HW1.out; omega)
                have u2 : ¬ aw < bw := by have := HW1.out; omega
                clear HM HW
                by_cases hw : aw = bw
                · have z4 : (aw == bw) = true := by simpa using hw
                  obtain ⟨hl1, hl2⟩ := HW2.out hw
                  have HLs := Lib.hid (fun w => (show lessN bnm anm = false from hl1) ▸ less_any bnm anm hbf w)
                  unfold str at HLs
                  by_cases hnm : anm = bnm
                  · have z5 : (anm == bnm) = true := by rw [hnm]; simp
                    have u3 := hl2 hnm
                    have u4 : decide (bid ≤ aid) = false := decide_eq_false (by omega)
                    have u5x : ¬ bid ≤ aid := by omega
                    clear hl1 hl2 hw hnm HW1 HW2
                    go_wp2_with fail
                    refine (HLs.out _).mono ?_
                    rintro e w9 ⟨rfl, g9⟩
                    have HGn := Lib.hid (HGn.out.then g9)
                    have H9 := H.out.later g9
                    clear g9 s0 s4 s5 r0 r4 r5
                    have s0 := H9.tail.fact (.head _) (i := 0) rfl
                    have s4 := H9.tail.fact (.head _) (i := 4) rfl
                    have s5 := H9.tail.fact (.head _) (i := 5) rfl
                    have r0 := H9.fact (.head _) (i := 0) rfl
                    have r4 := H9.fact (.head _) (i := 4) rfl
                    have r5 := H9.fact (.head _) (i := 5) rfl
                    simp only [] at s0 s4 s5 r0 r4 r5
                    clear H9 H
                    go_wp2_with fail
                    go_roundw
                    case rel => exact ⟨i1 + 1, by omega, by go_num, HGn⟩
                    case measure => simp [RowKit.intOf]; omega
                  · have z5 : (anm == bnm) = false := by simpa using hnm
                    clear hl1 hl2 hw hnm HW1 HW2
                    go_wp2_with fail
                    refine (HLs.out _).mono ?_
                    rintro e w9 ⟨rfl, g9⟩
                    have HGn := Lib.hid (HGn.out.then g9)
                    have H9 := H.out.later g9
                    clear g9 s0 s4 s5 r0 r4 r5
                    have s0 := H9.tail.fact (.head _) (i := 0) rfl
                    have s4 := H9.tail.fact (.head _) (i := 4) rfl
                    have s5 := H9.tail.fact (.head _) (i := 5) rfl
                    have r0 := H9.fact (.head _) (i := 0) rfl
                    have r4 := H9.fact (.head _) (i := 4) rfl
                    have r5 := H9.fact (.head _) (i := 5) rfl
                    simp only [] at s0 s4 s5 r0 r4 r5
                    clear H9 H
                    go_wp2_with fail
                    go_roundw
                    case rel => exact ⟨i1 + 1, by omega, by go_num, HGn⟩
                    case measure => simp [RowKit.intOf]; omega
                · have z4 : (aw == bw) = false := by simpa using hw
                  clear hw HW1 HW2 H
                  go_wp2_with fail
                  go_roundw
                  case rel => exact ⟨i1 + 1, by omega, by go_num, HGn⟩
                  case measure => simp [RowKit.intOf]; omega
          · obtain rfl : i = m := by omega
            have b2 : ¬ ((i : Int) < i) := by omega
            have HE := Lib.hid (HG5.out.then HW.out)
            clear HW
            go_wp2_with fail
            go_ret
            exact ⟨rfl, HE.out⟩

end Go.Proofs.Ytiliommilcifeaa
