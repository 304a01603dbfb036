/- Find of the reference. -/
import Derived.Test.YtiliommilcifeaaA16
namespace Go.Proofs.Ytiliommilcifeaa
open Go.RowKit Go.Lib Go.Sort
attribute [local go_sem] ba_extract

theorem Row.droptP {w : World} {g n c : Nat} {xs : List Pl} (h : Row tP w (.slice (some ⟨g, 0, none⟩) n c) xs) (k : Nat) (hk : k ≤ xs.length) {oo : Nat} (ho : oo = k * 7 ∨ n = k) : Row tP w (.slice (some ⟨g, oo, none⟩) (n - k) (c - k)) (xs.drop k) :=
  h.dropAt tP_ok k hk ho
theorem Own.addr {b : Nat} {w : World} {v : Value} {qs : List Pl} (h : Own tP b w v qs) {m : Nat} (hm : qs.length = m) : ∃ aa c2, v = .slice aa m c2 ∧ m ≤ c2 ∧ (c2 : Int) ≤ 9223372036854775807 ∧ ((aa = none ∧ c2 = 0) ∨ ∃ gl, aa = some ⟨gl, 0, none⟩) := by
  subst hm
  rcases h.2 with ⟨h1, h2⟩ | ⟨gl, c2, cur, h1, -, -, h3, h4, -⟩
  · exact ⟨none, 0, by rw [h1, h2], by omega, by decide, .inl ⟨rfl, rfl⟩⟩
  · exact ⟨some ⟨gl, 0, none⟩, c2, h1, h3, by unfold maxLen at h4; omega, .inr ⟨gl, rfl⟩⟩
theorem found_ofP {ps qs : List Pl} {pre : List UInt8} (hp : qs.Perm (bgs ps pre)) (hs : qs.Pairwise (fun x y => leK x.key y.key = true)) : qs.map Pl.id = found ps pre := by
  have h1 : qs.map Pl.key = sortK ((bgs ps pre).map Pl.key) := sortK_eq (hp.map _) (List.pairwise_map.2 hs)
  unfold found foundK
  show _ = (sortK ((bgs ps pre).map Pl.key)).map _
  rw [← h1, List.map_map]
  rfl
theorem beg_split (pre nm : List UInt8) : beg pre nm = (decide (fold nm ≠ []) && (decide ((fold pre).length ≤ (fold nm).length) && decide ((fold nm).take (fold pre).length = fold pre))) := by
  unfold beg
  rw [fold_length, fold_length, Bool.and_assoc]
  congr 1
  have : (fold nm = []) ↔ nm = [] := by unfold fold; simp
  rw [Bool.eq_iff_iff]; simp [this]
set_option maxRecDepth 100000 in
set_option maxHeartbeats 16000000 in
theorem rfind_any (v : Value) (ps : List Pl) (pre : List UInt8) (w : World) (hv : Row tP w v ps) (hf : Fine ps) (hp : Fits pre) :
    Calls Try.prog 22 #[v, str pre] w fun e w' => (∃ u, e = .returned u ∧ Own tI w.heap.size w' u (found ps pre)) ∧ Grows w w' := by
  obtain ⟨a, n, c, rfl, hn, hc1, hc2, hv⟩ := hv.form
  have HV := Lib.hid hv
  have HN0 := Lib.hid hn
  have HF := Lib.hid hf
  have HA := Lib.hid (rfold_any pre hp w)
  have hl : n ≤ 100000 := by have := hf.1; omega
  have HBs := Lib.hid (beg_split pre)
  clear hv hn hf
  generalize fold pre = g at *
  unfold str at *
  go_enter Try.func22, Try.ntmps22
  go_wp2_with fail
  refine HA.out.mono ?_
  rintro e w1 ⟨rfl, g1⟩
  have G1 := Lib.hid g1
  clear HA g1
  go_wp2_with fail
  go_loopw [5, 7] (fun u i wx => ∃ k : Nat, k ≤ n ∧ i = .int .i64 k ∧ ∃ qs : List Pl, Own tP w.heap.size wx u qs ∧ qs.Perm (bgs (ps.take k) pre) ∧ qs.Pairwise (fun a b => leK a.key b.key = true) ∧ Grows w wx) (fun _ i _ => n - (RowKit.intOf i).toNat)
  case atStart => exact ⟨0, Nat.zero_le _, rfl, [], Own.nil _ _, .nil, .nil, G1.out⟩
  case round =>
    obtain ⟨k, hk, rfl, qs, hO, hPm, hSo, hG⟩ := hrel
    have HO := Lib.hid hO
    have HPm0 := Lib.hid hPm
    have HSo0 := Lib.hid hSo
    have HG := Lib.hid hG
    clear hO hPm hSo hG
    by_cases hlt : k < n
    · obtain ⟨p, hkp⟩ : ∃ p, ps[k]? = some p := ⟨_, List.getElem?_eq_getElem (by rw [HN0.out]; exact hlt)⟩
      obtain ⟨b, o, rfl, -⟩ := HV.out.spot tP_ok (by rw [HN0.out]; omega)
      obtain ⟨c0, c1, c2, c3, c4, c5, c6⟩ := (HV.out.later HG.out).place hkp
      have HYes := Lib.hid (fun h => bgs_yes (pre := pre) hkp h)
      have HNo := Lib.hid (fun h => bgs_no (pre := pre) hkp h)
      have hpf := HF.out.2 p (List.mem_of_getElem? hkp)
      have HFo := Lib.hid (fun w => rfold_any p.nm hpf w)
      have HBn := Lib.hid (HBs.out p.nm)
      have hql : qs.length ≤ 100000 := by
        have h1 := HPm0.out.length_eq
        have h2 := bgs_length (ps.take k) pre
        rw [List.length_take] at h2; omega
      have b1 : (k : Int) < n := by omega
      have b2 : (0 : Int) ≤ k := by omega
      have HB : Has wr [(wr.heap.size, p.cells)] (wr.alloc (.cells p.cells.toArray 36)) := has1 _ _
      have HO1 := Lib.hid (HO.out.later HB.low)
      have HG1 := Lib.hid (HG.out.then HB.low)
      obtain ⟨f, hfo⟩ : ∃ f, fold p.nm = f := ⟨_, rfl⟩
      rw [hfo] at HFo HBn
      clear hkp HO HG hfo
      unfold Pl.cells at HB HO1 HG1
      unfold str at HB HO1 HG1 HFo c3 c4
      go_upto_region 7 with fail
      generalize hw2 : wr.alloc _ = w2 at *
      generalize hP : wr.heap.size = X at *
      clear c0 c1 c2 c3 c5 c6 c4
      have d4 := HB.fact (.head _) (i := 4) rfl
      simp only [] at d4
      have HBH := Lib.hid HB
      clear hw2 hP HB
      go_upto_region 8 with (go_at_call 16; refine (HFo.out _).mono ?_; rintro e w3 ⟨rfl, g3⟩)
      have HBH := Lib.hid (HBH.out.later g3)
      have HO1 := Lib.hid (HO1.out.later g3)
      have HG1 := Lib.hid (HG1.out.then g3)
      clear g3 d4 HFo
      generalize w3 = wq at *
      by_cases hf0 : f = []
      · have z0 : (f == []) = true := by rw [hf0]; rfl
        have HE := Lib.hid (HNo.out (by rw [HBn.out, decide_eq_false (by simp [hf0])]; rfl))
        clear hf0 HYes HNo HBn
        go_wp2_with fail
        go_roundw
        case rel => exact ⟨k + 1, by omega, by go_num, qs, HO1.out, by rw [HE.out]; exact HPm0.out, HSo0.out, HG1.out⟩
        case measure => simp [RowKit.intOf]; omega
      · have z0 : (f == []) = false := by simpa using hf0
        by_cases hgf : g.length ≤ f.length
        · have b3 : ¬ (f.length : Int) < g.length := by omega
          have b4 : (g.length : Int) ≤ f.length := by omega
          by_cases hpre : f.take g.length = g
          · have z1 : (f.take g.length == g) = true := by rw [hpre]; simp
            have HE := Lib.hid (HYes.out (by rw [HBn.out, decide_eq_true hf0, decide_eq_true hgf, decide_eq_true hpre]; rfl))
            clear hf0 hgf hpre HYes HNo HBn
            obtain ⟨id, px, py, pc, pn, pw, pd⟩ := p
            simp only [] at HBH hpf
            have HPm := Lib.hid (show (putP qs ⟨id, px, py, pc, pn, pw, pd⟩).Perm (bgs (ps.take (k + 1)) pre) by
              rw [HE.out]; exact (putP_perm qs _).trans (HPm0.out.append_right _))
            have HSo := Lib.hid (putP_sorted ⟨id, px, py, pc, pn, pw, pd⟩ HSo0.out)
            have HQf := Lib.hid (fun (y : Pl) (hy : y ∈ qs) => HF.out.2 y (List.mem_of_mem_take ((List.mem_filter.1 (HPm0.out.mem_iff.1 hy)).1)))
            obtain ⟨m, hm⟩ : ∃ m, qs.length = m := ⟨_, rfl⟩
            have HN := Lib.hid hm
            have HL0 := Lib.hid HO1.out.row
            rw [hm] at hql
            obtain ⟨aa, c2, hu5, hmc, hc2m, hAA⟩ := HO1.out.addr hm
            have HAA := Lib.hid hAA
            subst hu5
            clear HE HPm0 HSo0 HO1 hm hAA
            go_upto_region 9 with fail
            clear z0 z1 b3 b4
            go_upto_block 2 with fail
            go_cut [10] (fun i wx => ∃ at0 : Nat, at0 ≤ m ∧ i = .int .i64 at0 ∧ Hid (qs.take at0 ++ (⟨id, px, py, pc, pn, pw, pd⟩ :: qs.drop at0) = putP qs ⟨id, px, py, pc, pn, pw, pd⟩) ∧ Hid (Grows wq wx))
            case first =>
              clear HPm HSo
              go_wp2_with fail
              go_loopw [10] (fun i wx => ∃ at0 : Nat, at0 ≤ m ∧ i = .int .i64 at0 ∧ Hid (posG ltP qs ⟨id, px, py, pc, pn, pw, pd⟩ at0 = posG ltP qs ⟨id, px, py, pc, pn, pw, pd⟩ m) ∧ Grows wq wx) (fun i _ => (RowKit.intOf i).toNat)
              case atStart => exact ⟨m, Nat.le_refl _, rfl, Lib.hid rfl, Below.refl _ _⟩
              case round =>
                obtain ⟨at0, hat, rfl, HT, hgw⟩ := hrel
                have HBX := Lib.hid (HBH.out.later hgw)
                have HL := Lib.hid (HL0.out.later hgw)
                have HGW := Lib.hid hgw
                generalize wr = wb at *
                clear hgw HBH HL0
                by_cases h0 : at0 = 0
                · have HE := Lib.hid (show qs.take at0 ++ (⟨id, px, py, pc, pn, pw, pd⟩ :: qs.drop at0) = putP qs ⟨id, px, py, pc, pn, pw, pd⟩ by
                    have := HT.out
                    subst h0
                    unfold putP insG; rw [HN.out, ← this]; rfl)
                  have b1 : ¬ (at0 : Int) > 0 := by omega
                  have z8 : decide ((0 : Int) < (at0 : Int)) = false := decide_eq_false (by omega)
                  have z9 : ¬ 0 < at0 := by omega
                  clear HT h0
                  go_upto_region 10 with fail
                  go_quiet (fail)
                  have G0 := Lib.hid (HGW.out.then (below_drewN (Below.refl _ wb) nq))
                  generalize wb.drewN nq = wz at *
                  go_wp2_with fail
                  go_meet
                  exact ⟨at0, hat, rfl, HE, G0⟩
                · obtain ⟨q, rfl⟩ : ∃ q, at0 = q + 1 := ⟨at0 - 1, by omega⟩
                  obtain ⟨⟨yid, yx, yy, yc, yn, yw, yd⟩, hy⟩ : ∃ y, qs[q]? = some y := ⟨_, List.getElem?_eq_getElem (by rw [HN.out]; omega)⟩
                  obtain ⟨gl, rfl⟩ : ∃ gl, aa = some ⟨gl, 0, none⟩ := HAA.out.resolve_left (fun h => by omega)
                  have hyf := HQf.out _ (List.mem_of_getElem? hy)
                  have HM := Lib.hid (fun wx (hg : Grows wb wx) => show (wx.cell? ⟨X, 0, none⟩ = some (.int .i64 id) ∧ wx.cell? ⟨X, 1, none⟩ = some (.int .i64 px) ∧ wx.cell? ⟨X, 2, none⟩ = some (.int .i64 py) ∧ wx.cell? ⟨X, 3, none⟩ = some (.string ⟨pc.toArray⟩) ∧ wx.cell? ⟨X, 4, none⟩ = some (.string ⟨pn.toArray⟩) ∧ wx.cell? ⟨X, 5, none⟩ = some (.int .i64 pw) ∧ wx.cell? ⟨X, 6, none⟩ = some (.int .i64 pd) ∧ wx.cell? ⟨gl, q * 7, none⟩ = some (.int .i64 yid) ∧ wx.cell? ⟨gl, q * 7 + 1, none⟩ = some (.int .i64 yx) ∧ wx.cell? ⟨gl, q * 7 + 2, none⟩ = some (.int .i64 yy) ∧ wx.cell? ⟨gl, q * 7 + 3, none⟩ = some (.string ⟨yc.toArray⟩) ∧ wx.cell? ⟨gl, q * 7 + 4, none⟩ = some (.string ⟨yn.toArray⟩) ∧ wx.cell? ⟨gl, q * 7 + 5, none⟩ = some (.int .i64 yw) ∧ wx.cell? ⟨gl, q * 7 + 6, none⟩ = some (.int .i64 yd)) ∧ Grows wb wx from by
                    have h := HBX.out.later hg
                    have hl := HL.out.later hg
                    obtain ⟨e0, e1, e2, e3, e4, e5, e6⟩ := hl.place hy
                    rw [Nat.zero_add] at e0 e1 e2 e3 e4 e5 e6
                    exact ⟨⟨h.fact (.head _) (i := 0) rfl, h.fact (.head _) (i := 1) rfl, h.fact (.head _) (i := 2) rfl, h.fact (.head _) (i := 3) rfl, h.fact (.head _) (i := 4) rfl, h.fact (.head _) (i := 5) rfl, h.fact (.head _) (i := 6) rfl, e0, e1, e2, e3, e4, e5, e6⟩, hg⟩)
                  obtain ⟨r, hr⟩ : ∃ r, ltP ⟨id, px, py, pc, pn, pw, pd⟩ ⟨yid, yx, yy, yc, yn, yw, yd⟩ = r := ⟨_, rfl⟩
                  have HBf := Lib.hid (fun w => before_any ⟨id, px, py, pc, pn, pw, pd⟩ ⟨yid, yx, yy, yc, yn, yw, yd⟩ hpf hyf w)
                  rw [hr] at HBf
                  unfold Pl.cells str at HBf
                  have b1 : ((q + 1 : Nat) : Int) > 0 := by omega
                  have z8 : decide ((0 : Int) < ((q + 1 : Nat) : Int)) = true := decide_eq_true (by omega)
                  have z9 : 0 < q + 1 := by omega
                  have e1 : ((q + 1 : Nat) : Int) - 1 = (q : Int) := by omega
                  have b3 : (q : Int) < m := by omega
                  have b4 : (0 : Int) ≤ q := by omega
                  have lw : IntKind.i64.wrap (q : Int) = (q : Int) := by rw [IntKind.wrap_i64]; omega
                  cases r
                  · have HE := Lib.hid (show qs.take (q + 1) ++ (⟨id, px, py, pc, pn, pw, pd⟩ :: qs.drop (q + 1)) = putP qs ⟨id, px, py, pc, pn, pw, pd⟩ by
                      have := HT.out
                      rw [posG_no hy hr] at this
                      unfold putP insG; rw [HN.out, ← this])
                    clear HT hr hy hyf HBX HL HQf
                    obtain ⟨at0, ha⟩ : ∃ at0, q + 1 = at0 := ⟨_, rfl⟩
                    rw [ha] at HE hat b1 e1 z8 z9 ⊢
                    clear ha h0
                    go_upto_region 10 with fail
                    refine wp_region_held_drew (S := (fun wx => (wx.cell? ⟨X, 0, none⟩ = some (.int .i64 id) ∧ wx.cell? ⟨X, 1, none⟩ = some (.int .i64 px) ∧ wx.cell? ⟨X, 2, none⟩ = some (.int .i64 py) ∧ wx.cell? ⟨X, 3, none⟩ = some (.string ⟨pc.toArray⟩) ∧ wx.cell? ⟨X, 4, none⟩ = some (.string ⟨pn.toArray⟩) ∧ wx.cell? ⟨X, 5, none⟩ = some (.int .i64 pw) ∧ wx.cell? ⟨X, 6, none⟩ = some (.int .i64 pd) ∧ wx.cell? ⟨gl, q * 7, none⟩ = some (.int .i64 yid) ∧ wx.cell? ⟨gl, q * 7 + 1, none⟩ = some (.int .i64 yx) ∧ wx.cell? ⟨gl, q * 7 + 2, none⟩ = some (.int .i64 yy) ∧ wx.cell? ⟨gl, q * 7 + 3, none⟩ = some (.string ⟨yc.toArray⟩) ∧ wx.cell? ⟨gl, q * 7 + 4, none⟩ = some (.string ⟨yn.toArray⟩) ∧ wx.cell? ⟨gl, q * 7 + 5, none⟩ = some (.int .i64 yw) ∧ wx.cell? ⟨gl, q * 7 + 6, none⟩ = some (.int .i64 yd)) ∧ Grows wb wx)) (by kernel_rfl) (HM.out _ (Below.refl _ wb).drew) (fun hHeld => ?_)
                    refine wpAnyT_begin [0, 1, 2, 3, 4, 5, 6, 7, 8] (by kernel_rfl) (by kernel_rfl) ?_
                    refine wpAnyT_take (oi := ⟨some 47, Op.move (Operand.tmp 10), 3, _, _, none⟩) (v := .int .i64 at0) rfl (fun _ _ _ h => h) (by rfl) (by assumption) (fun wS hSw => ?_) ?_
                    · (try dsimp only at hSw); go_simp
                    simp only [Act.put, List.setIfInBounds_toArray, List.set_cons_zero, List.set_cons_succ]
                    refine wpAnyT_take (oi := ⟨some 48, Op.binOp BinOp.gtr 3 (Operand.tmp 47) (Operand.const (Value.int IntKind.i64 0)) 3, 4, _, _, none⟩) (v := .bool true) rfl (fun _ _ _ h => h) (by rfl) (by assumption) (fun wS hSw => ?_) ?_
                    · (try dsimp only at hSw); go_simp
                    simp only [Act.put, List.setIfInBounds_toArray, List.set_cons_zero, List.set_cons_succ]
                    refine wpAnyT_take (oi := ⟨some 49, Op.move (Operand.tmp 48), 4, _, _, none⟩) (v := .bool true) rfl (fun _ _ _ h => h) (by rfl) (by assumption) (fun wS hSw => ?_) ?_
                    · (try dsimp only at hSw); go_simp
                    simp only [Act.put, List.setIfInBounds_toArray, List.set_cons_zero, List.set_cons_succ]
                    refine wpAnyT_take (oi := ⟨some 50, Op.load 36 (Operand.tmp 8), 36, _, _, some (2, true)⟩) (v := .agg #[.int .i64 id, .int .i64 px, .int .i64 py, .string ⟨pc.toArray⟩, .string ⟨pn.toArray⟩, .int .i64 pw, .int .i64 pd]) rfl (fun _ _ _ h => h) (by rfl) (by assumption) (fun wS hSw => ?_) ?_
                    · (try dsimp only at hSw); go_simp
                    simp only [Act.put, List.setIfInBounds_toArray, List.set_cons_zero, List.set_cons_succ]
                    refine wpAnyT_take (oi := ⟨some 51, Op.move (Operand.tmp 5), 26, _, _, some (2, true)⟩) (v := .slice (some ⟨gl, 0, none⟩) m c2) rfl (fun _ _ _ h => h) (by rfl) (by assumption) (fun wS hSw => ?_) ?_
                    · (try dsimp only at hSw); go_simp
                    simp only [Act.put, List.setIfInBounds_toArray, List.set_cons_zero, List.set_cons_succ]
                    refine wpAnyT_take (oi := ⟨some 52, Op.move (Operand.tmp 10), 3, _, _, some (2, true)⟩) (v := .int .i64 at0) rfl (fun _ _ _ h => h) (by rfl) (by assumption) (fun wS hSw => ?_) ?_
                    · (try dsimp only at hSw); go_simp
                    simp only [Act.put, List.setIfInBounds_toArray, List.set_cons_zero, List.set_cons_succ]
                    refine wpAnyT_take (oi := ⟨some 53, Op.binOp BinOp.sub 3 (Operand.tmp 52) (Operand.const (Value.int IntKind.i64 1)) 3, 3, _, _, some (2, true)⟩) (v := .int .i64 q) rfl (fun _ _ _ h => h) (by rfl) (by assumption) (fun wS hSw => ?_) ?_
                    · (try dsimp only at hSw); go_simp
                    simp only [Act.put, List.setIfInBounds_toArray, List.set_cons_zero, List.set_cons_succ]
                    refine wpAnyT_take (oi := ⟨some 54, Op.indexAddr 26 (Operand.tmp 51) (Operand.tmp 53), 0, _, _, some (2, true)⟩) (v := .pointer (some ⟨gl, q * 7, none⟩)) rfl (fun _ _ _ h => h) (by rfl) (by assumption) (fun wS hSw => ?_) ?_
                    · (try dsimp only at hSw); go_simp
                    simp only [Act.put, List.setIfInBounds_toArray, List.set_cons_zero, List.set_cons_succ]
                    refine wpAnyT_take (oi := ⟨some 55, Op.load 36 (Operand.tmp 54), 36, _, _, some (2, true)⟩) (v := .agg #[.int .i64 yid, .int .i64 yx, .int .i64 yy, .string ⟨yc.toArray⟩, .string ⟨yn.toArray⟩, .int .i64 yw, .int .i64 yd]) rfl (fun _ _ _ h => h) (by rfl) (by assumption) (fun wS hSw => ?_) ?_
                    · (try dsimp only at hSw); go_simp
                    simp only [Act.put, List.setIfInBounds_toArray, List.set_cons_zero, List.set_cons_succ]
                    refine wpAnyT_end ?_
                    refine wpAnyH_listed #[true, true, true, true, true, true, true, true, true, false, false] (by kernel_rfl) ?_
                    refine wpAnyH_ready (rs := [9]) (by kernel_rfl) (by simp) ?_
                    refine AllReadyH.cons (o := ⟨some 56, Op.call { callee := Callee.value (Operand.func 36), args := #[Operand.tmp 50, Operand.tmp 55], argTypes := #[36, 36] }, 4, _, _, some (2, true)⟩) rfl (fun K hK => ?_) AllReadyH.nil
                    go_simp
                    go_at_call 36
                    refine (HBf.out _).mono ?_
                    rintro e W3 ⟨rfl, hC⟩
                    go_wp2_with fail
                    clear hHeld
                    refine hK.out _ _ (HM.out _ ((Below.refl _ wb).drew.trans hC)) (fun hHeld => ?_)
                    clear hK K
                    try simp only [List.setIfInBounds_toArray, List.set_cons_zero, List.set_cons_succ]
                    refine wpAnyH_listed #[true, true, true, true, true, true, true, true, true, true, false] (by kernel_rfl) ?_
                    refine wpAnyH_ready (rs := [10]) (by kernel_rfl) (by simp) ?_
                    refine AllReadyH.cons (o := ⟨some 57, Op.pick (Operand.tmp 49) (Operand.tmp 56) (Operand.const (Value.bool false)), 4, _, _, none⟩) rfl (fun K hK => ?_) AllReadyH.nil
                    go_wp2_with fail
                    clear hHeld
                    refine hK.out _ _ (HM.out _ ((Below.refl _ wb).drew.trans hC)) (fun hHeld => ?_)
                    clear hK K
                    try simp only [List.setIfInBounds_toArray, List.set_cons_zero, List.set_cons_succ]
                    refine wpAnyH_listed #[true, true, true, true, true, true, true, true, true, true, true] (by kernel_rfl) ?_
                    refine wpAnyH_done (by kernel_rfl) ?_ _
                    clear hHeld
                    have G0 := Lib.hid (HGW.out.then ((Below.refl _ wb).drew.trans hC))
                    clear HM HBf hC
                    go_wp2_with fail
                    go_meet
                    exact ⟨at0, hat, rfl, HE, G0⟩
                  · have HE := Lib.hid (show posG ltP qs ⟨id, px, py, pc, pn, pw, pd⟩ q = posG ltP qs ⟨id, px, py, pc, pn, pw, pd⟩ m by rw [← HT.out, posG_yes hy hr])
                    clear HT hr hy hyf HBX HL HQf
                    obtain ⟨at0, ha⟩ : ∃ at0, q + 1 = at0 := ⟨_, rfl⟩
                    rw [ha] at hat b1 e1 z8 z9 ⊢
                    clear h0
                    go_upto_region 10 with fail
                    refine wp_region_held_drew (S := (fun wx => (wx.cell? ⟨X, 0, none⟩ = some (.int .i64 id) ∧ wx.cell? ⟨X, 1, none⟩ = some (.int .i64 px) ∧ wx.cell? ⟨X, 2, none⟩ = some (.int .i64 py) ∧ wx.cell? ⟨X, 3, none⟩ = some (.string ⟨pc.toArray⟩) ∧ wx.cell? ⟨X, 4, none⟩ = some (.string ⟨pn.toArray⟩) ∧ wx.cell? ⟨X, 5, none⟩ = some (.int .i64 pw) ∧ wx.cell? ⟨X, 6, none⟩ = some (.int .i64 pd) ∧ wx.cell? ⟨gl, q * 7, none⟩ = some (.int .i64 yid) ∧ wx.cell? ⟨gl, q * 7 + 1, none⟩ = some (.int .i64 yx) ∧ wx.cell? ⟨gl, q * 7 + 2, none⟩ = some (.int .i64 yy) ∧ wx.cell? ⟨gl, q * 7 + 3, none⟩ = some (.string ⟨yc.toArray⟩) ∧ wx.cell? ⟨gl, q * 7 + 4, none⟩ = some (.string ⟨yn.toArray⟩) ∧ wx.cell? ⟨gl, q * 7 + 5, none⟩ = some (.int .i64 yw) ∧ wx.cell? ⟨gl, q * 7 + 6, none⟩ = some (.int .i64 yd)) ∧ Grows wb wx)) (by kernel_rfl) (HM.out _ (Below.refl _ wb).drew) (fun hHeld => ?_)
                    refine wpAnyT_begin [0, 1, 2, 3, 4, 5, 6, 7, 8] (by kernel_rfl) (by kernel_rfl) ?_
                    refine wpAnyT_take (oi := ⟨some 47, Op.move (Operand.tmp 10), 3, _, _, none⟩) (v := .int .i64 at0) rfl (fun _ _ _ h => h) (by rfl) (by assumption) (fun wS hSw => ?_) ?_
                    · (try dsimp only at hSw); go_simp
                    simp only [Act.put, List.setIfInBounds_toArray, List.set_cons_zero, List.set_cons_succ]
                    refine wpAnyT_take (oi := ⟨some 48, Op.binOp BinOp.gtr 3 (Operand.tmp 47) (Operand.const (Value.int IntKind.i64 0)) 3, 4, _, _, none⟩) (v := .bool true) rfl (fun _ _ _ h => h) (by rfl) (by assumption) (fun wS hSw => ?_) ?_
                    · (try dsimp only at hSw); go_simp
                    simp only [Act.put, List.setIfInBounds_toArray, List.set_cons_zero, List.set_cons_succ]
                    refine wpAnyT_take (oi := ⟨some 49, Op.move (Operand.tmp 48), 4, _, _, none⟩) (v := .bool true) rfl (fun _ _ _ h => h) (by rfl) (by assumption) (fun wS hSw => ?_) ?_
                    · (try dsimp only at hSw); go_simp
                    simp only [Act.put, List.setIfInBounds_toArray, List.set_cons_zero, List.set_cons_succ]
                    refine wpAnyT_take (oi := ⟨some 50, Op.load 36 (Operand.tmp 8), 36, _, _, some (2, true)⟩) (v := .agg #[.int .i64 id, .int .i64 px, .int .i64 py, .string ⟨pc.toArray⟩, .string ⟨pn.toArray⟩, .int .i64 pw, .int .i64 pd]) rfl (fun _ _ _ h => h) (by rfl) (by assumption) (fun wS hSw => ?_) ?_
                    · (try dsimp only at hSw); go_simp
                    simp only [Act.put, List.setIfInBounds_toArray, List.set_cons_zero, List.set_cons_succ]
                    refine wpAnyT_take (oi := ⟨some 51, Op.move (Operand.tmp 5), 26, _, _, some (2, true)⟩) (v := .slice (some ⟨gl, 0, none⟩) m c2) rfl (fun _ _ _ h => h) (by rfl) (by assumption) (fun wS hSw => ?_) ?_
                    · (try dsimp only at hSw); go_simp
                    simp only [Act.put, List.setIfInBounds_toArray, List.set_cons_zero, List.set_cons_succ]
                    refine wpAnyT_take (oi := ⟨some 52, Op.move (Operand.tmp 10), 3, _, _, some (2, true)⟩) (v := .int .i64 at0) rfl (fun _ _ _ h => h) (by rfl) (by assumption) (fun wS hSw => ?_) ?_
                    · (try dsimp only at hSw); go_simp
                    simp only [Act.put, List.setIfInBounds_toArray, List.set_cons_zero, List.set_cons_succ]
                    refine wpAnyT_take (oi := ⟨some 53, Op.binOp BinOp.sub 3 (Operand.tmp 52) (Operand.const (Value.int IntKind.i64 1)) 3, 3, _, _, some (2, true)⟩) (v := .int .i64 q) rfl (fun _ _ _ h => h) (by rfl) (by assumption) (fun wS hSw => ?_) ?_
                    · (try dsimp only at hSw); go_simp
                    simp only [Act.put, List.setIfInBounds_toArray, List.set_cons_zero, List.set_cons_succ]
                    refine wpAnyT_take (oi := ⟨some 54, Op.indexAddr 26 (Operand.tmp 51) (Operand.tmp 53), 0, _, _, some (2, true)⟩) (v := .pointer (some ⟨gl, q * 7, none⟩)) rfl (fun _ _ _ h => h) (by rfl) (by assumption) (fun wS hSw => ?_) ?_
                    · (try dsimp only at hSw); go_simp
                    simp only [Act.put, List.setIfInBounds_toArray, List.set_cons_zero, List.set_cons_succ]
                    refine wpAnyT_take (oi := ⟨some 55, Op.load 36 (Operand.tmp 54), 36, _, _, some (2, true)⟩) (v := .agg #[.int .i64 yid, .int .i64 yx, .int .i64 yy, .string ⟨yc.toArray⟩, .string ⟨yn.toArray⟩, .int .i64 yw, .int .i64 yd]) rfl (fun _ _ _ h => h) (by rfl) (by assumption) (fun wS hSw => ?_) ?_
                    · (try dsimp only at hSw); go_simp
                    simp only [Act.put, List.setIfInBounds_toArray, List.set_cons_zero, List.set_cons_succ]
                    refine wpAnyT_end ?_
                    refine wpAnyH_listed #[true, true, true, true, true, true, true, true, true, false, false] (by kernel_rfl) ?_
                    refine wpAnyH_ready (rs := [9]) (by kernel_rfl) (by simp) ?_
                    refine AllReadyH.cons (o := ⟨some 56, Op.call { callee := Callee.value (Operand.func 36), args := #[Operand.tmp 50, Operand.tmp 55], argTypes := #[36, 36] }, 4, _, _, some (2, true)⟩) rfl (fun K hK => ?_) AllReadyH.nil
                    go_simp
                    go_at_call 36
                    refine (HBf.out _).mono ?_
                    rintro e W3 ⟨rfl, hC⟩
                    go_wp2_with fail
                    clear hHeld
                    refine hK.out _ _ (HM.out _ ((Below.refl _ wb).drew.trans hC)) (fun hHeld => ?_)
                    clear hK K
                    try simp only [List.setIfInBounds_toArray, List.set_cons_zero, List.set_cons_succ]
                    refine wpAnyH_listed #[true, true, true, true, true, true, true, true, true, true, false] (by kernel_rfl) ?_
                    refine wpAnyH_ready (rs := [10]) (by kernel_rfl) (by simp) ?_
                    refine AllReadyH.cons (o := ⟨some 57, Op.pick (Operand.tmp 49) (Operand.tmp 56) (Operand.const (Value.bool false)), 4, _, _, none⟩) rfl (fun K hK => ?_) AllReadyH.nil
                    go_wp2_with fail
                    clear hHeld
                    refine hK.out _ _ (HM.out _ ((Below.refl _ wb).drew.trans hC)) (fun hHeld => ?_)
                    clear hK K
                    try simp only [List.setIfInBounds_toArray, List.set_cons_zero, List.set_cons_succ]
                    refine wpAnyH_listed #[true, true, true, true, true, true, true, true, true, true, true] (by kernel_rfl) ?_
                    refine wpAnyH_done (by kernel_rfl) ?_ _
                    clear hHeld
                    have G0 := Lib.hid (HGW.out.then ((Below.refl _ wb).drew.trans hC))
                    clear HM HBf hC
                    go_wp2_with fail
                    go_roundw
                    case rel => exact ⟨q, by omega, by go_num, HE, G0.out⟩
                    case measure => simp [RowKit.intOf]; omega
            case rest =>
              obtain ⟨at0, hat, rfl, HE, HGW⟩ := hcut
              generalize wc = wb at *
              have HBB := Lib.hid (HG1.out.then HGW.out)
              have HBX := Lib.hid (HBH.out.later HGW.out)
              have b5 : (at0 : Int) ≤ m := by omega
              have b6 : (0 : Int) ≤ at0 := by omega
              obtain ⟨ab, hab, HDr⟩ : ∃ ab : Option Addr, ((aa = none ∧ c2 = 0 ∧ ab = none) ∨ ∃ gl, aa = some ⟨gl, 0, none⟩ ∧ (c2 = at0 → ab = some ⟨gl, 0, none⟩) ∧ (¬ c2 = at0 → ab = some ⟨gl, at0 * 7, none⟩)) ∧ Hid (Row tP wq (.slice ab (m - at0) (c2 - at0)) (qs.drop at0)) := by
                have hl := HL0.out
                rcases HAA.out with ⟨h1, h2⟩ | ⟨gl, h1⟩
                · have hm0 : m = 0 := by omega
                  have hq0 : qs = [] := List.eq_nil_of_length_eq_zero (by rw [HN.out]; exact hm0)
                  exact ⟨none, .inl ⟨h1, h2, rfl⟩, Lib.hid ⟨none, c2 - at0, by rw [hq0, hm0]; simp, by rw [hq0]; simp, by omega, .inl (by rw [hq0]; simp)⟩⟩
                · rw [h1] at hl
                  by_cases hca : c2 = at0
                  · exact ⟨some ⟨gl, 0, none⟩, .inr ⟨gl, h1, fun _ => rfl, fun q => absurd hca q⟩, Lib.hid (hl.droptP at0 (by rw [HN.out]; exact hat) (.inr (by omega)))⟩
                  · exact ⟨some ⟨gl, at0 * 7, none⟩, .inr ⟨gl, h1, fun q => absurd q hca, fun _ => rfl⟩, Lib.hid (hl.droptP at0 (by rw [HN.out]; exact hat) (.inl rfl))⟩
              have HTk := Lib.hid (show Row tP wq (.slice aa at0 c2) (qs.take at0) from by
                have hl := HL0.out
                exact hl.take at0 (by rw [HN.out]; exact hat))
              have HDr := Lib.hid (HDr.out.later HGW.out)
              have HTk := Lib.hid (HTk.out.later HGW.out)
              clear HGW HL0 HBH HG1 HAA HQf
              have HMx := Lib.hid (fun wx (hg : Grows wb wx) => show (wx.cell? ⟨X, 0, none⟩ = some (.int .i64 id) ∧ wx.cell? ⟨X, 1, none⟩ = some (.int .i64 px) ∧ wx.cell? ⟨X, 2, none⟩ = some (.int .i64 py) ∧ wx.cell? ⟨X, 3, none⟩ = some (.string ⟨pc.toArray⟩) ∧ wx.cell? ⟨X, 4, none⟩ = some (.string ⟨pn.toArray⟩) ∧ wx.cell? ⟨X, 5, none⟩ = some (.int .i64 pw) ∧ wx.cell? ⟨X, 6, none⟩ = some (.int .i64 pd)) ∧ Grows wb wx from by
                have h := HBX.out.later hg
                exact ⟨⟨h.fact (.head _) (i := 0) rfl, h.fact (.head _) (i := 1) rfl, h.fact (.head _) (i := 2) rfl, h.fact (.head _) (i := 3) rfl, h.fact (.head _) (i := 4) rfl, h.fact (.head _) (i := 5) rfl, h.fact (.head _) (i := 6) rfl⟩, hg⟩)
              go_upto_region 12 with fail
              refine wp_region_held_drew (S := (fun wx => (wx.cell? ⟨X, 0, none⟩ = some (.int .i64 id) ∧ wx.cell? ⟨X, 1, none⟩ = some (.int .i64 px) ∧ wx.cell? ⟨X, 2, none⟩ = some (.int .i64 py) ∧ wx.cell? ⟨X, 3, none⟩ = some (.string ⟨pc.toArray⟩) ∧ wx.cell? ⟨X, 4, none⟩ = some (.string ⟨pn.toArray⟩) ∧ wx.cell? ⟨X, 5, none⟩ = some (.int .i64 pw) ∧ wx.cell? ⟨X, 6, none⟩ = some (.int .i64 pd)) ∧ Grows wb wx)) (by kernel_rfl) (HMx.out _ (Below.refl _ wb).drew) (fun hHeld => ?_)
              have G : Grows wb wb.drew := (Below.refl _ wb).drew
              refine wpAnyT_begin [1, 2, 3, 5, 8, 9, 10] (by kernel_rfl) (by kernel_rfl) ?_
              refine wpAnyT_take (oi := ⟨some 61, Op.move (Operand.tmp 5), 26, _, _, none⟩) (v := .slice aa m c2) rfl (fun _ _ _ h => h) (by rfl) (by assumption) (fun wS hSw => ?_) ?_
              · (try dsimp only at hSw); go_simp
              simp only [Act.put, List.setIfInBounds_toArray, List.set_cons_zero, List.set_cons_succ]
              refine wpAnyT_take (oi := ⟨some 62, Op.move (Operand.tmp 10), 3, _, _, none⟩) (v := .int .i64 at0) rfl (fun _ _ _ h => h) (by rfl) (by assumption) (fun wS hSw => ?_) ?_
              · (try dsimp only at hSw); go_simp
              simp only [Act.put, List.setIfInBounds_toArray, List.set_cons_zero, List.set_cons_succ]
              refine wpAnyT_take (oi := ⟨some 63, Op.slice 26 (Operand.tmp 61) none (some (Operand.tmp 62)) none, 26, _, _, none⟩) (v := .slice aa at0 c2) rfl (fun _ _ _ h => h) (by rfl) (by assumption) (fun wS hSw => ?_) ?_
              · (try dsimp only at hSw); rcases hab with ⟨h1, h2, h3⟩ | ⟨gl, h1, h2, h3⟩ <;> subst h1 <;> (try subst h3) <;> go_simp <;> (first | done | omega | (split <;> rename_i hz <;> first | rw [h2 hz] | rw [h3 hz]))
              simp only [Act.put, List.setIfInBounds_toArray, List.set_cons_zero, List.set_cons_succ]
              refine wpAnyT_take (oi := ⟨some 65, Op.load 36 (Operand.tmp 8), 36, _, _, none⟩) (v := .agg #[.int .i64 id, .int .i64 px, .int .i64 py, .string ⟨pc.toArray⟩, .string ⟨pn.toArray⟩, .int .i64 pw, .int .i64 pd]) rfl (fun _ _ _ h => h) (by rfl) (by assumption) (fun wS hSw => ?_) ?_
              · (try dsimp only at hSw); go_simp
              simp only [Act.put, List.setIfInBounds_toArray, List.set_cons_zero, List.set_cons_succ]
              refine wpAnyT_take (oi := ⟨some 68, Op.move (Operand.tmp 5), 26, _, _, none⟩) (v := .slice aa m c2) rfl (fun _ _ _ h => h) (by rfl) (by assumption) (fun wS hSw => ?_) ?_
              · (try dsimp only at hSw); go_simp
              simp only [Act.put, List.setIfInBounds_toArray, List.set_cons_zero, List.set_cons_succ]
              refine wpAnyT_take (oi := ⟨some 69, Op.move (Operand.tmp 10), 3, _, _, none⟩) (v := .int .i64 at0) rfl (fun _ _ _ h => h) (by rfl) (by assumption) (fun wS hSw => ?_) ?_
              · (try dsimp only at hSw); go_simp
              simp only [Act.put, List.setIfInBounds_toArray, List.set_cons_zero, List.set_cons_succ]
              refine wpAnyT_take (oi := ⟨some 70, Op.slice 26 (Operand.tmp 68) (some (Operand.tmp 69)) none none, 26, _, _, none⟩) (v := .slice ab (m - at0) (c2 - at0)) rfl (fun _ _ _ h => h) (by rfl) (by assumption) (fun wS hSw => ?_) ?_
              · (try dsimp only at hSw); rcases hab with ⟨h1, h2, h3⟩ | ⟨gl, h1, h2, h3⟩ <;> subst h1 <;> (try subst h3) <;> go_simp <;> (first | done | omega | (split <;> rename_i hz <;> first | rw [h2 hz] | rw [h3 hz]))
              simp only [Act.put, List.setIfInBounds_toArray, List.set_cons_zero, List.set_cons_succ]
              refine wpAnyT_end ?_
              refine wpAnyH_listed #[false, true, true, true, false, true, false, false, true, true, true, false, false] (by kernel_rfl) ?_
              generalize wb.drew = w0 at *
              refine wpAnyH_ready (rs := [0, 6]) (by kernel_rfl) (by simp) ?_
              refine AllReadyH.cons (o := ⟨some 60, Op.buildSlice 26 0 #[], 26, _, _, none⟩) rfl (fun K hK => ?_) ?_
              · go_simp
                have OA := own_empty (T := tP) (b := wb.heap.size) w0 36 G.size
                have G1 := G.then ((Below.refl _ w0).alloc (Nat.le_refl _) (.cells #[] 36))
                clear G
                have G := G1
                clear G1
                have hPA : w0.heap.size = w0.heap.size := rfl
                obtain ⟨PA, hPA⟩ : ∃ PA, w0.heap.size = PA := ⟨_, rfl⟩
                rw [hPA] at OA ⊢
                have hlA : PA < (w0.alloc (.cells #[] 36)).heap.size := by rw [size_alloc]; omega
                generalize w0.alloc (.cells #[] 36) = WA at *
                clear hPA
                clear hHeld
                refine hK.out _ _ (HMx.out _ G) (fun hHeld => ?_)
                clear hK K
                try simp only [List.setIfInBounds_toArray, List.set_cons_zero]
                refine wpAnyH_listed #[true, true, true, true, false, true, false, false, true, true, true, false, false] (by kernel_rfl) ?_
                refine wpAnyH_ready (rs := [4, 6]) (by kernel_rfl) (by simp) ?_
                refine AllReadyH.cons (o := ⟨some 64, Op.call { callee := Callee.builtin Builtin.append, args := #[Operand.tmp 60, Operand.tmp 63], argTypes := #[26, 26] }, 26, _, _, none⟩) rfl (fun K hK => ?_) ?_
                · refine step_append tP_ok rfl _ _ rfl rfl OA rfl (HTk.out.later G) (by first | (simp; done) | (simp only [List.length_nil, List.length_take]; omega)) G.size ?_
                  intro v1 WB OB hGB _
                  have G1 := grow_append G OA (Nat.le_refl _) hGB
                  rw [List.nil_append] at OB
                  clear hlA
                  clear G OA hGB
                  have G := G1
                  clear G1
                  clear hHeld
                  refine hK.out _ _ (HMx.out _ G) (fun hHeld => ?_)
                  clear hK K
                  try simp only [List.setIfInBounds_toArray, List.set_cons_zero, List.set_cons_succ]
                  refine wpAnyH_listed #[true, true, true, true, true, true, false, false, true, true, true, false, false] (by kernel_rfl) ?_
                  refine wpAnyH_ready (rs := [6]) (by kernel_rfl) (by simp) ?_
                  refine AllReadyH.cons (o := ⟨some 66, Op.buildSlice 26 1 #[(0, Operand.tmp 65)], 26, _, _, none⟩) rfl (fun K hK => ?_) AllReadyH.nil
                  go_simp
                  have RC : Row tP (WB.alloc (.cells #[.int .i64 id, .int .i64 px, .int .i64 py, .string ⟨pc.toArray⟩, .string ⟨pn.toArray⟩, .int .i64 pw, .int .i64 pd] 36)) (.slice (some ⟨WB.heap.size, 0, none⟩) 1 1) [⟨id, px, py, pc, pn, pw, pd⟩] := row_one (T := tP) WB 36 ⟨id, px, py, pc, pn, pw, pd⟩ _ rfl
                  have G1 := G.then ((Below.refl _ WB).alloc (Nat.le_refl _) (.cells #[.int .i64 id, .int .i64 px, .int .i64 py, .string ⟨pc.toArray⟩, .string ⟨pn.toArray⟩, .int .i64 pw, .int .i64 pd] 36))
                  clear G
                  have G := G1
                  clear G1
                  have OB1 := OB.later ((Below.refl _ WB).alloc (Nat.le_refl _) (.cells #[.int .i64 id, .int .i64 px, .int .i64 py, .string ⟨pc.toArray⟩, .string ⟨pn.toArray⟩, .int .i64 pw, .int .i64 pd] 36))
                  clear OB
                  have OB := OB1
                  clear OB1
                  obtain ⟨PC, hPC⟩ : ∃ PC, WB.heap.size = PC := ⟨_, rfl⟩
                  rw [hPC] at RC ⊢
                  generalize WB.alloc (.cells #[.int .i64 id, .int .i64 px, .int .i64 py, .string ⟨pc.toArray⟩, .string ⟨pn.toArray⟩, .int .i64 pw, .int .i64 pd] 36) = WC at *
                  clear hPC
                  clear hHeld
                  refine hK.out _ _ (HMx.out _ G) (fun hHeld => ?_)
                  clear hK K
                  try simp only [List.setIfInBounds_toArray, List.set_cons_zero, List.set_cons_succ]
                  refine wpAnyH_listed #[true, true, true, true, true, true, true, false, true, true, true, false, false] (by kernel_rfl) ?_
                  refine wpAnyH_ready (rs := [7]) (by kernel_rfl) (by simp) ?_
                  refine AllReadyH.cons (o := ⟨some 67, Op.call { callee := Callee.builtin Builtin.append, args := #[Operand.tmp 64, Operand.tmp 66], argTypes := #[26, 26] }, 26, _, _, none⟩) rfl (fun K hK => ?_) AllReadyH.nil
                  refine step_append tP_ok rfl _ _ rfl rfl OB rfl RC (by first | (simp; done) | (simp only [List.length_singleton, List.length_take]; omega)) G.size ?_
                  intro v2 WD OD hGD _
                  have G1 := grow_append G OB (Nat.le_refl _) hGD
                  clear G OB RC hGD
                  have G := G1
                  clear G1
                  clear hHeld
                  refine hK.out _ _ (HMx.out _ G) (fun hHeld => ?_)
                  clear hK K
                  try simp only [List.setIfInBounds_toArray, List.set_cons_zero, List.set_cons_succ]
                  refine wpAnyH_listed #[true, true, true, true, true, true, true, true, true, true, true, false, false] (by kernel_rfl) ?_
                  refine wpAnyH_ready (rs := [11]) (by kernel_rfl) (by simp) ?_
                  refine AllReadyH.cons (o := ⟨some 71, Op.call { callee := Callee.builtin Builtin.append, args := #[Operand.tmp 67, Operand.tmp 70], argTypes := #[26, 26] }, 26, _, _, none⟩) rfl (fun K hK => ?_) AllReadyH.nil
                  refine step_append tP_ok rfl _ _ rfl rfl OD rfl (HDr.out.later G) (by first | (simp; done) | (simp only [List.length_append, List.length_singleton, List.length_take, List.length_drop, HN.out]; omega)) G.size ?_
                  intro v3 WE OE hGE _
                  have G1 := grow_append G OD (Nat.le_refl _) hGE
                  clear G OD hGE
                  have G := G1
                  clear G1
                  clear hHeld
                  refine hK.out _ _ (HMx.out _ G) (fun hHeld => ?_)
                  clear hK K
                  try simp only [List.setIfInBounds_toArray, List.set_cons_zero, List.set_cons_succ]
                  refine wpAnyH_listed #[true, true, true, true, true, true, true, true, true, true, true, true, false] (by kernel_rfl) ?_
                  refine wpAnyH_ready (rs := [12]) (by kernel_rfl) (by simp) ?_
                  refine AllReadyH.cons (o := ⟨some 5, Op.assign (Operand.tmp 71), 26, _, _, none⟩) rfl (fun K hK => ?_) AllReadyH.nil
                  go_wp2_with fail
                  clear hHeld
                  refine hK.out _ _ (HMx.out _ G) (fun hHeld => ?_)
                  clear hK K
                  try simp only [List.setIfInBounds_toArray, List.set_cons_zero, List.set_cons_succ]
                  refine wpAnyH_listed #[true, true, true, true, true, true, true, true, true, true, true, true, true] (by kernel_rfl) ?_
                  refine wpAnyH_done (by kernel_rfl) ?_ _
                  clear hHeld
                  go_wp2_with fail
                  go_roundw
                  case rel => exact ⟨k + 1, by omega, by go_num, _, by rw [List.append_assoc] at OE; exact Own.base (HE.out ▸ OE) HBB.out.size, HPm.out, HSo.out, Grows.then HBB.out G⟩
                  case measure => simp [RowKit.intOf]; omega
                refine AllReadyH.cons (o := ⟨some 66, Op.buildSlice 26 1 #[(0, Operand.tmp 65)], 26, _, _, none⟩) rfl (fun K hK => ?_) AllReadyH.nil
                go_simp
                have RC : Row tP (WA.alloc (.cells #[.int .i64 id, .int .i64 px, .int .i64 py, .string ⟨pc.toArray⟩, .string ⟨pn.toArray⟩, .int .i64 pw, .int .i64 pd] 36)) (.slice (some ⟨WA.heap.size, 0, none⟩) 1 1) [⟨id, px, py, pc, pn, pw, pd⟩] := row_one (T := tP) WA 36 ⟨id, px, py, pc, pn, pw, pd⟩ _ rfl
                have G1 := G.then ((Below.refl _ WA).alloc (Nat.le_refl _) (.cells #[.int .i64 id, .int .i64 px, .int .i64 py, .string ⟨pc.toArray⟩, .string ⟨pn.toArray⟩, .int .i64 pw, .int .i64 pd] 36))
                clear G
                have G := G1
                clear G1
                have OA1 := OA.later ((Below.refl _ WA).alloc (Nat.le_refl _) (.cells #[.int .i64 id, .int .i64 px, .int .i64 py, .string ⟨pc.toArray⟩, .string ⟨pn.toArray⟩, .int .i64 pw, .int .i64 pd] 36))
                clear OA
                have OA := OA1
                clear OA1
                obtain ⟨PC, hPC⟩ : ∃ PC, WA.heap.size = PC := ⟨_, rfl⟩
                rw [hPC] at RC ⊢
                have hne : PC ≠ PA := by omega
                generalize WA.alloc (.cells #[.int .i64 id, .int .i64 px, .int .i64 py, .string ⟨pc.toArray⟩, .string ⟨pn.toArray⟩, .int .i64 pw, .int .i64 pd] 36) = WC at *
                clear hPC
                clear hlA
                clear hHeld
                refine hK.out _ _ (HMx.out _ G) (fun hHeld => ?_)
                clear hK K
                try simp only [List.setIfInBounds_toArray, List.set_cons_zero, List.set_cons_succ]
                refine wpAnyH_listed #[true, true, true, true, false, true, true, false, true, true, true, false, false] (by kernel_rfl) ?_
                refine wpAnyH_ready (rs := [4]) (by kernel_rfl) (by simp) ?_
                refine AllReadyH.cons (o := ⟨some 64, Op.call { callee := Callee.builtin Builtin.append, args := #[Operand.tmp 60, Operand.tmp 63], argTypes := #[26, 26] }, 26, _, _, none⟩) rfl (fun K hK => ?_) AllReadyH.nil
                refine step_append tP_ok rfl _ _ rfl rfl OA rfl (HTk.out.later G) (by first | (simp; done) | (simp only [List.length_nil, List.length_take]; omega)) G.size ?_
                intro v1 WB OB hGB _
                have G1 := grow_append G OA (Nat.le_refl _) hGB
                rw [List.nil_append] at OB
                have RC1 := RC.kept hGB (by simp only [Value.ownBlock]; intro e; injection e with e; exact hne e.symm)
                clear RC hne
                have RC := RC1
                clear RC1
                clear G OA hGB
                have G := G1
                clear G1
                clear hHeld
                refine hK.out _ _ (HMx.out _ G) (fun hHeld => ?_)
                clear hK K
                try simp only [List.setIfInBounds_toArray, List.set_cons_zero, List.set_cons_succ]
                refine wpAnyH_listed #[true, true, true, true, true, true, true, false, true, true, true, false, false] (by kernel_rfl) ?_
                refine wpAnyH_ready (rs := [7]) (by kernel_rfl) (by simp) ?_
                refine AllReadyH.cons (o := ⟨some 67, Op.call { callee := Callee.builtin Builtin.append, args := #[Operand.tmp 64, Operand.tmp 66], argTypes := #[26, 26] }, 26, _, _, none⟩) rfl (fun K hK => ?_) AllReadyH.nil
                refine step_append tP_ok rfl _ _ rfl rfl OB rfl RC (by first | (simp; done) | (simp only [List.length_singleton, List.length_take]; omega)) G.size ?_
                intro v2 WD OD hGD _
                have G1 := grow_append G OB (Nat.le_refl _) hGD
                clear G OB RC hGD
                have G := G1
                clear G1
                clear hHeld
                refine hK.out _ _ (HMx.out _ G) (fun hHeld => ?_)
                clear hK K
                try simp only [List.setIfInBounds_toArray, List.set_cons_zero, List.set_cons_succ]
                refine wpAnyH_listed #[true, true, true, true, true, true, true, true, true, true, true, false, false] (by kernel_rfl) ?_
                refine wpAnyH_ready (rs := [11]) (by kernel_rfl) (by simp) ?_
                refine AllReadyH.cons (o := ⟨some 71, Op.call { callee := Callee.builtin Builtin.append, args := #[Operand.tmp 67, Operand.tmp 70], argTypes := #[26, 26] }, 26, _, _, none⟩) rfl (fun K hK => ?_) AllReadyH.nil
                refine step_append tP_ok rfl _ _ rfl rfl OD rfl (HDr.out.later G) (by first | (simp; done) | (simp only [List.length_append, List.length_singleton, List.length_take, List.length_drop, HN.out]; omega)) G.size ?_
                intro v3 WE OE hGE _
                have G1 := grow_append G OD (Nat.le_refl _) hGE
                clear G OD hGE
                have G := G1
                clear G1
                clear hHeld
                refine hK.out _ _ (HMx.out _ G) (fun hHeld => ?_)
                clear hK K
                try simp only [List.setIfInBounds_toArray, List.set_cons_zero, List.set_cons_succ]
                refine wpAnyH_listed #[true, true, true, true, true, true, true, true, true, true, true, true, false] (by kernel_rfl) ?_
                refine wpAnyH_ready (rs := [12]) (by kernel_rfl) (by simp) ?_
                refine AllReadyH.cons (o := ⟨some 5, Op.assign (Operand.tmp 71), 26, _, _, none⟩) rfl (fun K hK => ?_) AllReadyH.nil
                go_wp2_with fail
                clear hHeld
                refine hK.out _ _ (HMx.out _ G) (fun hHeld => ?_)
                clear hK K
                try simp only [List.setIfInBounds_toArray, List.set_cons_zero, List.set_cons_succ]
                refine wpAnyH_listed #[true, true, true, true, true, true, true, true, true, true, true, true, true] (by kernel_rfl) ?_
                refine wpAnyH_done (by kernel_rfl) ?_ _
                clear hHeld
                go_wp2_with fail
                go_roundw
                case rel => exact ⟨k + 1, by omega, by go_num, _, by rw [List.append_assoc] at OE; exact Own.base (HE.out ▸ OE) HBB.out.size, HPm.out, HSo.out, Grows.then HBB.out G⟩
                case measure => simp [RowKit.intOf]; omega
              refine AllReadyH.cons (o := ⟨some 66, Op.buildSlice 26 1 #[(0, Operand.tmp 65)], 26, _, _, none⟩) rfl (fun K hK => ?_) AllReadyH.nil
              go_simp
              have RC : Row tP (w0.alloc (.cells #[.int .i64 id, .int .i64 px, .int .i64 py, .string ⟨pc.toArray⟩, .string ⟨pn.toArray⟩, .int .i64 pw, .int .i64 pd] 36)) (.slice (some ⟨w0.heap.size, 0, none⟩) 1 1) [⟨id, px, py, pc, pn, pw, pd⟩] := row_one (T := tP) w0 36 ⟨id, px, py, pc, pn, pw, pd⟩ _ rfl
              have G1 := G.then ((Below.refl _ w0).alloc (Nat.le_refl _) (.cells #[.int .i64 id, .int .i64 px, .int .i64 py, .string ⟨pc.toArray⟩, .string ⟨pn.toArray⟩, .int .i64 pw, .int .i64 pd] 36))
              clear G
              have G := G1
              clear G1
              obtain ⟨PC, hPC⟩ : ∃ PC, w0.heap.size = PC := ⟨_, rfl⟩
              rw [hPC] at RC ⊢
              have hlC : PC < (w0.alloc (.cells #[.int .i64 id, .int .i64 px, .int .i64 py, .string ⟨pc.toArray⟩, .string ⟨pn.toArray⟩, .int .i64 pw, .int .i64 pd] 36)).heap.size := by rw [size_alloc]; omega
              generalize w0.alloc (.cells #[.int .i64 id, .int .i64 px, .int .i64 py, .string ⟨pc.toArray⟩, .string ⟨pn.toArray⟩, .int .i64 pw, .int .i64 pd] 36) = WC at *
              clear hPC
              clear hHeld
              refine hK.out _ _ (HMx.out _ G) (fun hHeld => ?_)
              clear hK K
              try simp only [List.setIfInBounds_toArray, List.set_cons_zero, List.set_cons_succ]
              refine wpAnyH_listed #[false, true, true, true, false, true, true, false, true, true, true, false, false] (by kernel_rfl) ?_
              refine wpAnyH_ready (rs := [0]) (by kernel_rfl) (by simp) ?_
              refine AllReadyH.cons (o := ⟨some 60, Op.buildSlice 26 0 #[], 26, _, _, none⟩) rfl (fun K hK => ?_) AllReadyH.nil
              go_simp
              have OA := own_empty (T := tP) (b := wb.heap.size) WC 36 G.size
              have G1 := G.then ((Below.refl _ WC).alloc (Nat.le_refl _) (.cells #[] 36))
              have RC1 := RC.later ((Below.refl _ WC).alloc (Nat.le_refl _) (.cells #[] 36))
              clear RC
              have RC := RC1
              clear RC1
              clear G
              have G := G1
              clear G1
              have hPA : WC.heap.size = WC.heap.size := rfl
              obtain ⟨PA, hPA⟩ : ∃ PA, WC.heap.size = PA := ⟨_, rfl⟩
              rw [hPA] at OA ⊢
              have hne : PC ≠ PA := by omega
              generalize WC.alloc (.cells #[] 36) = WA at *
              clear hPA
              clear hlC
              clear hHeld
              refine hK.out _ _ (HMx.out _ G) (fun hHeld => ?_)
              clear hK K
              try simp only [List.setIfInBounds_toArray, List.set_cons_zero]
              refine wpAnyH_listed #[true, true, true, true, false, true, true, false, true, true, true, false, false] (by kernel_rfl) ?_
              refine wpAnyH_ready (rs := [4]) (by kernel_rfl) (by simp) ?_
              refine AllReadyH.cons (o := ⟨some 64, Op.call { callee := Callee.builtin Builtin.append, args := #[Operand.tmp 60, Operand.tmp 63], argTypes := #[26, 26] }, 26, _, _, none⟩) rfl (fun K hK => ?_) AllReadyH.nil
              refine step_append tP_ok rfl _ _ rfl rfl OA rfl (HTk.out.later G) (by first | (simp; done) | (simp only [List.length_nil, List.length_take]; omega)) G.size ?_
              intro v1 WB OB hGB _
              have G1 := grow_append G OA (Nat.le_refl _) hGB
              rw [List.nil_append] at OB
              have RC1 := RC.kept hGB (by simp only [Value.ownBlock]; intro e; injection e with e; exact hne e.symm)
              clear RC hne
              have RC := RC1
              clear RC1
              clear G OA hGB
              have G := G1
              clear G1
              clear hHeld
              refine hK.out _ _ (HMx.out _ G) (fun hHeld => ?_)
              clear hK K
              try simp only [List.setIfInBounds_toArray, List.set_cons_zero, List.set_cons_succ]
              refine wpAnyH_listed #[true, true, true, true, true, true, true, false, true, true, true, false, false] (by kernel_rfl) ?_
              refine wpAnyH_ready (rs := [7]) (by kernel_rfl) (by simp) ?_
              refine AllReadyH.cons (o := ⟨some 67, Op.call { callee := Callee.builtin Builtin.append, args := #[Operand.tmp 64, Operand.tmp 66], argTypes := #[26, 26] }, 26, _, _, none⟩) rfl (fun K hK => ?_) AllReadyH.nil
              refine step_append tP_ok rfl _ _ rfl rfl OB rfl RC (by first | (simp; done) | (simp only [List.length_singleton, List.length_take]; omega)) G.size ?_
              intro v2 WD OD hGD _
              have G1 := grow_append G OB (Nat.le_refl _) hGD
              clear G OB RC hGD
              have G := G1
              clear G1
              clear hHeld
              refine hK.out _ _ (HMx.out _ G) (fun hHeld => ?_)
              clear hK K
              try simp only [List.setIfInBounds_toArray, List.set_cons_zero, List.set_cons_succ]
              refine wpAnyH_listed #[true, true, true, true, true, true, true, true, true, true, true, false, false] (by kernel_rfl) ?_
              refine wpAnyH_ready (rs := [11]) (by kernel_rfl) (by simp) ?_
              refine AllReadyH.cons (o := ⟨some 71, Op.call { callee := Callee.builtin Builtin.append, args := #[Operand.tmp 67, Operand.tmp 70], argTypes := #[26, 26] }, 26, _, _, none⟩) rfl (fun K hK => ?_) AllReadyH.nil
              refine step_append tP_ok rfl _ _ rfl rfl OD rfl (HDr.out.later G) (by first | (simp; done) | (simp only [List.length_append, List.length_singleton, List.length_take, List.length_drop, HN.out]; omega)) G.size ?_
              intro v3 WE OE hGE _
              have G1 := grow_append G OD (Nat.le_refl _) hGE
              clear G OD hGE
              have G := G1
              clear G1
              clear hHeld
              refine hK.out _ _ (HMx.out _ G) (fun hHeld => ?_)
              clear hK K
              try simp only [List.setIfInBounds_toArray, List.set_cons_zero, List.set_cons_succ]
              refine wpAnyH_listed #[true, true, true, true, true, true, true, true, true, true, true, true, false] (by kernel_rfl) ?_
              refine wpAnyH_ready (rs := [12]) (by kernel_rfl) (by simp) ?_
              refine AllReadyH.cons (o := ⟨some 5, Op.assign (Operand.tmp 71), 26, _, _, none⟩) rfl (fun K hK => ?_) AllReadyH.nil
              go_wp2_with fail
              clear hHeld
              refine hK.out _ _ (HMx.out _ G) (fun hHeld => ?_)
              clear hK K
              try simp only [List.setIfInBounds_toArray, List.set_cons_zero, List.set_cons_succ]
              refine wpAnyH_listed #[true, true, true, true, true, true, true, true, true, true, true, true, true] (by kernel_rfl) ?_
              refine wpAnyH_done (by kernel_rfl) ?_ _
              clear hHeld
              go_wp2_with fail
              go_roundw
              case rel => exact ⟨k + 1, by omega, by go_num, _, by rw [List.append_assoc] at OE; exact Own.base (HE.out ▸ OE) HBB.out.size, HPm.out, HSo.out, Grows.then HBB.out G⟩
              case measure => simp [RowKit.intOf]; omega
          · have z1 : (f.take g.length == g) = false := by simpa using hpre
            have HE := Lib.hid (HNo.out (by rw [HBn.out, decide_eq_false hpre]; simp))
            clear hf0 hgf hpre HYes HNo HBn
            go_wp2_with fail
            go_roundw
            case rel => exact ⟨k + 1, by omega, by go_num, qs, HO1.out, by rw [HE.out]; exact HPm0.out, HSo0.out, HG1.out⟩
            case measure => simp [RowKit.intOf]; omega
        · have b3 : (f.length : Int) < g.length := by omega
          have HE := Lib.hid (HNo.out (by rw [HBn.out, decide_eq_false hgf]; simp))
          clear hf0 hgf HYes HNo HBn
          go_wp2_with fail
          go_roundw
          case rel => exact ⟨k + 1, by omega, by go_num, qs, HO1.out, by rw [HE.out]; exact HPm0.out, HSo0.out, HG1.out⟩
          case measure => simp [RowKit.intOf]; omega
    · obtain rfl : k = n := by omega
      have HTk : ps.take k = ps := List.take_of_length_le (by rw [HN0.out]; exact Nat.le_refl _)
      rw [HTk] at HPm0
      have HFd := Lib.hid (found_ofP HPm0.out HSo0.out)
      have hql : qs.length ≤ 100000 := by
        have h1 := HPm0.out.length_eq
        have h2 := bgs_length ps pre
        rw [HN0.out] at h2; omega
      have HRq := Lib.hid HO.out.row
      obtain ⟨ua, uc, hu, -, -⟩ := HO.out.form
      obtain ⟨m, hm⟩ : ∃ m, qs.length = m := ⟨_, rfl⟩
      rw [hm] at hu hql
      have HM := Lib.hid hm
      subst hu
      have b1 : ¬ ((k : Int) < k) := by omega
      clear HTk HO HPm0 HSo0 hm
      generalize wr = w4 at *
      go_wp2_with fail
      go_loopw [11, 12] (fun u i wx => ∃ j : Nat, j ≤ m ∧ i = .int .i64 j ∧ Own tI w4.heap.size wx u ((qs.take j).map Pl.id) ∧ Grows w4 wx) (fun _ i _ => m - (RowKit.intOf i).toNat)
      case atStart => exact ⟨0, Nat.zero_le _, rfl, Own.nil _ _, Below.refl _ _⟩
      case round =>
        obtain ⟨j, hj, rfl, HO0, HG0⟩ := hrel
        have HO := Lib.hid HO0
        have HGr := Lib.hid HG0
        clear HO0 HG0
        by_cases hlt : j < m
        · obtain ⟨p, hkp⟩ : ∃ p, qs[j]? = some p := ⟨_, List.getElem?_eq_getElem (by rw [HM.out]; exact hlt)⟩
          obtain ⟨b, o, rfl, -⟩ := HRq.out.spot tP_ok (by rw [HM.out]; omega)
          have c0 := ((HRq.out.later HGr.out).place hkp).1
          have HT := Lib.hid (show (qs.take (j + 1)).map Pl.id = (qs.take j).map Pl.id ++ [p.id] by
            obtain ⟨q1, q2⟩ := List.getElem?_eq_some_iff.1 hkp
            rw [List.take_succ_eq_append_getElem q1, List.map_append, q2]; rfl)
          have HLen := Lib.hid (show ((qs.take j).map Pl.id).length + 1 ≤ 2000000 by rw [List.length_map, List.length_take]; omega)
          generalize (qs.take j).map Pl.id = ts at *
          generalize p.id = id at *
          have b1 : (j : Int) < m := by omega
          have b2 : (0 : Int) ≤ j := by omega
          have HO3 := Lib.hid (HO.out.later (w' := wr.alloc (.cells #[.int .i64 id] 3)) ((Below.refl _ _).alloc (Nat.le_refl _) _))
          have HR1 := Lib.hid (show Row tI (wr.alloc (.cells #[.int .i64 id] 3)) (.slice (some ⟨wr.heap.size, 0, none⟩) 1 1) [id] from row_one wr 3 id _ rfl)
          have GB := Lib.hid (show Grows w4 (wr.alloc (.cells #[.int .i64 id] 3)) from HGr.out.then ((Below.refl _ _).alloc (Nat.le_refl _) _))
          clear hkp
          go_wp2_with (at_builtin; refine wpList_append tI_ok rfl _ _ rfl rfl HO3.out rfl HR1.out ?_ ?_ ?_)
          · simpa using HLen.out
          · simpa using GB.out.size
          intro v' w' hO6 hG3 _
          have hG4 := grow_append GB.out HO3.out (Nat.le_refl _) hG3
          have HO6 := Lib.hid hO6
          clear hO6 hG3
          go_wp2_with fail
          go_roundw
          case rel => exact ⟨j + 1, by omega, by go_num, by rw [HT.out]; exact HO6.out, hG4⟩
          case measure => simp [RowKit.intOf]; omega
        · obtain rfl : j = m := by omega
          have HTk : qs.take j = qs := List.take_of_length_le (by rw [HM.out]; exact Nat.le_refl _)
          rw [HTk, HFd.out] at HO
          have HO5 := Lib.hid (HO.out.base HG.out.size)
          have HG5 := Lib.hid (HG.out.then HGr.out)
          have b1 : ¬ ((j : Int) < j) := by omega
          clear HTk HO HG HGr
          go_wp2_with fail
          go_ret
          exact ⟨⟨_, rfl, HO5.out⟩, HG5.out⟩

end Go.Proofs.Ytiliommilcifeaa
