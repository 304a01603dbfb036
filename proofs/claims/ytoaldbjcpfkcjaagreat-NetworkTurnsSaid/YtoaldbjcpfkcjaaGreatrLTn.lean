/- The law of turning. -/
import Derived.Test.YtoaldbjcpfkcjaaGreatrTz
import Derived.Test.YtoaldbjcpfkcjaaGreatrSw
import Derived.Test.YtoaldbjcpfkcjaaGreatrXg
namespace Go.Proofs.YtoaldbjcpfkcjaaGreat
open Go.RowKit Go.Lib

/-- A list of truth values in memory. -/
def RowB (w : World) (v : Value) (bs : List Bool) : Prop :=
  ∃ a cap, v = .slice a bs.length cap ∧ bs.length ≤ cap ∧ (cap : Int) ≤ 9223372036854775807 ∧ (bs = [] ∨ ∃ b o, a = some ⟨b, o, none⟩ ∧ ∀ i x, bs[i]? = some x → w.cell? ⟨b, o + i, none⟩ = some (.bool x))
theorem RowB.later {w W : World} {v : Value} {bs : List Bool} (h : RowB w v bs) (g : Grows w W) : RowB W v bs := by
  obtain ⟨a, cap, rfl, h1, h2, h3⟩ := h
  refine ⟨a, cap, rfl, h1, h2, h3.imp id ?_⟩
  rintro ⟨b, o, rfl, hq⟩
  exact ⟨b, o, rfl, fun i t ht => (g.cell (World.block_lt_of_cell? w _ (hq i t ht))).trans (hq i t ht)⟩
/-- The way with its line as it stands after the first step. -/
def P9t (wr : World) (M : Nat) (t : Wy) (f : Bool) (W : World) : Prop :=
  ∃ lu, Has wr [(M, [.int .i64 t.id, lu, .int .i64 t.lv, .string t.cl, .string t.nm, .bool t.st, .int .i64 t.wt, .int .i64 t.ds])] W ∧ RowP W lu (rvl f t.ln)
theorem tn_wk {a : Wy} (h : In20 a.ln) (hl : -1 ≤ a.lv ∧ a.lv ≤ 1) (q0 q1 q2 : Int) (r : Bool) : WK (tnW q0 q1 q2 r a) := by
  have hr := (mvd20 (rvl_20 h r) q0 q1 q2).r'
  have key : ∀ p ∈ tnl q0 q1 q2 r a.ln, K64 (p.1, p.2, a.lv) := fun p hp => by
    have := (List.all_eq_true.1 hr) p hp
    unfold rtP at this
    rw [inl_iff] at this
    unfold K64 I64
    simp only
    omega
  have z : K64 (0, 0, 0) := by unfold K64 I64; decide
  refine ⟨?_, ?_⟩
  · unfold fstK
    split
    · exact z
    · next p q he => exact key p (by have : (tnW q0 q1 q2 r a).ln = tnl q0 q1 q2 r a.ln := rfl; rw [this] at he; rw [he]; exact .head _)
  · unfold lstK
    split
    · exact z
    · next p he => exact key p (List.mem_of_getLast? he)
def flg (bs : List Bool) (i : Nat) : Bool := (bs[i]?).getD false
def prs (ws : List Wy) (bs : List Bool) : List (Wy × Bool) := ws.zipIdx.map fun p => (p.1, flg bs p.2)
theorem prs_at (ws : List Wy) (bs : List Bool) (i : Nat) : (prs ws bs)[i]? = (ws[i]?).map fun t => (t, flg bs i) := by
  unfold prs
  rw [List.getElem?_map, List.getElem?_zipIdx]
  cases ws[i]? <;> simp
theorem prs_fst (ws : List Wy) (bs : List Bool) : (prs ws bs).map Prod.fst = ws := by
  unfold prs
  rw [List.map_map]
  have : (Prod.fst ∘ fun p : Wy × Nat => (p.1, flg bs p.2)) = Prod.fst := rfl
  rw [this, List.zipIdx_map_fst]
theorem prs_len (ws : List Wy) (bs : List Bool) : (prs ws bs).length = ws.length := by unfold prs; simp
set_option linter.unusedSimpArgs false in
set_option maxRecDepth 100000 in
set_option maxHeartbeats 8000000 in
theorem turns_any (v vb : Value) (xs : List Int) (bs : List Bool) (q0 q1 q2 : Int) (w : World) (R : RowN w v xs) (RB : RowB w vb bs) :
    Calls Tryz.prog 7 #[v, vb, .agg #[.int .i64 q0, .int .i64 q1, .int .i64 q2]] w fun e w' => e = .returned (.bool true) ∧ Below w.heap.size w w' := by
  have HR := Lib.hid R
  have HRB := Lib.hid RB
  obtain ⟨va, vc, rfl, -⟩ := R
  obtain ⟨ba, bc, rfl, hbc1, hbc2, -⟩ := RB
  obtain ⟨bn, hbn⟩ : ∃ bn, bs.length = bn := ⟨_, rfl⟩
  have HBN := Lib.hid hbn
  rw [hbn] at HRB hbc1 ⊢
  clear hbn
  have C0 := has1 (w := w) [.int .i64 q0, .int .i64 q1, .int .i64 q2] 53
  go_enter Tryz.func7, Tryz.ntmps7
  go_wp2_with fail
  change Has w _ (w.alloc (.cells #[.int .i64 q0, .int .i64 q1, .int .i64 q2] 53)) at C0
  generalize w.alloc (.cells #[.int .i64 q0, .int .i64 q1, .int .i64 q2] 53) = w0 at *
  obtain ⟨A, hA⟩ : ∃ A, w.heap.size = A := ⟨_, rfl⟩
  refine (sane_any _).mono ?_
  rintro e w1 ⟨rfl, B0⟩
  have C1 := C0.later B0
  clear C0 B0
  go_wp2_with fail
  refine (made_any _ xs _ (HR.out.later C1.low)).mono ?_
  rintro e w2 ⟨u, ws, rfl, RW, HM, B1⟩
  have C2 := C1.later B1
  clear C1 B1
  replace HM := Lib.hid HM
  have c0 := Lib.hid (C2.fact (.head _) (i := 0) rfl)
  have c1 := Lib.hid (C2.fact (.head _) (i := 1) rfl)
  have c2 := Lib.hid (C2.fact (.head _) (i := 2) rfl)
  rw [hA] at c0 c1 c2
  have HB := Lib.hid C2.low
  have HRB2 := Lib.hid (HRB.out.later C2.low)
  obtain ⟨wa, n, wc, rfl, hn, hc1, hc2, RW⟩ := RW.form
  have HN := Lib.hid hn
  have HW := Lib.hid RW
  have h6 : n ≤ 6 := by have := HM.out.len; omega
  have hO0 := OwnW.nil w2.heap.size w2
  simp only [hA]
  clear hn RW C2
  go_wp2_with fail
  go_loopw [9, 10] (fun o r wr => ∃ i : Nat, i ≤ n ∧ r = .int .i64 i ∧ Below w2.heap.size w2 wr ∧ OwnW w2.heap.size wr o (tnWs q0 q1 q2 ((prs ws bs).take i))) (fun _ r _ => n - (RowKit.intOf r).toNat)
  case atStart => exact ⟨0, Nat.zero_le _, rfl, Below.refl _ _, hO0⟩
  case round =>
    clear hO0
    obtain ⟨i, hi, rfl, hG, hO⟩ := hrel
    by_cases hin : i < n
    · have b1 : (i : Int) < n := by omega
      have b2 : (0 : Int) ≤ i := by omega
      obtain ⟨bb, oo, rfl, hcell⟩ := HW.out.spot (by rw [HN.out]; omega)
      obtain ⟨ti, hti⟩ : ∃ t, ws[i]? = some t := ⟨_, List.getElem?_eq_getElem (by rw [HN.out]; omega)⟩
      obtain ⟨ui, ri, ai⟩ := hcell i ti hti
      have HTI := Lib.hid hti
      have RI := Lib.hid ri
      obtain ⟨la, lc, rfl, hlc1, hlc2, -⟩ := ri
      obtain ⟨a0, a1, a2, a3, a4, a5, a6, a7⟩ := ai
      have k : ∀ {ad : Addr} {v : Value}, w2.cell? ad = some v → wr.cell? ad = some v := fun {_ _} q => (Below.cell hG (World.block_lt_of_cell? w2 _ q)).trans q
      replace a0 := k a0
      replace a1 := k a1
      replace a2 := k a2
      replace a3 := k a3
      replace a4 := k a4
      replace a5 := k a5
      replace a6 := k a6
      replace a7 := k a7
      clear hti hcell k
      have C0 := has1 (w := wr) [.int .i64 0, .slice none 0 0, .int .i64 0, .string { data := #[] }, .string { data := #[] }, .bool false, .int .i64 0, .int .i64 0] 44
      go_wp2_with (refine wpList_store_has (vs := [.int .i64 ti.id, .slice la ti.ln.length lc, .int .i64 ti.lv, .string ti.cl, .string ti.nm, .bool ti.st, .int .i64 ti.wt, .int .i64 ti.ds]) rfl rfl rfl ?_ ?_ C0 rfl (by kernel_rfl) (by simp [Value.oneCell']) ?_)
      · rfl
      · rfl
      rintro w4 C1 -
      clear C0 a0 a1 a2 a3 a4 a5 a6 a7
      obtain ⟨M, hM⟩ : ∃ M, wr.heap.size = M := ⟨_, rfl⟩
      rw [hM] at C1
      simp only [hM]
      have hMw : M < w4.heap.size := C1.lt0
      have hAM : A < M := by rw [← hM]; exact Nat.lt_of_lt_of_le (World.block_lt_of_cell? w2 _ c0.out) hG.size
      have hG4 : Below w2.heap.size w2 w4 := hG.trans (C1.low.mono hG.size)
      have HGr := Lib.hid hG
      have HO := Lib.hid hO
      clear hO hG
      obtain ⟨f, hf⟩ : ∃ f, flg bs i = f := ⟨_, rfl⟩
      have HF := Lib.hid hf
      have hb2 : (bn : Int) ≤ bc := by omega
      go_upto_region 8 with fail
      go_cut [38] (fun v wx => v = .bool f ∧ wx = w4)
      case first =>
        by_cases hib : i < bn
        · have b3 : (i : Int) < bn := by omega
          obtain ⟨x, hx⟩ : ∃ x, bs[i]? = some x := ⟨_, List.getElem?_eq_getElem (by rw [HBN.out]; exact hib)⟩
          obtain ⟨ba', bc', he, -, -, hq⟩ := HRB2.out
          injection he with e1 e2 e3
          subst e1 e3
          clear e2
          obtain ⟨xb, xo, rfl, hqq⟩ := hq.resolve_left (by intro h; have := HBN.out; rw [h] at this; simp at this; omega)
          have d0 := (Below.cell hG4 (World.block_lt_of_cell? w2 _ (hqq i x hx))).trans (hqq i x hx)
          have hfx : x = f := by rw [← hf]; unfold flg; rw [hx]; rfl
          rw [hfx] at d0
          clear hqq hq hf hx hfx
          go_wp2_with fail
          go_meet
          exact ⟨rfl, rfl⟩
        · have b3 : decide ((i : Int) < bn) = false := decide_eq_false (by omega)
          have b4 : ¬ (i : Int) < bn := by omega
          have hf0 : f = false := by rw [← hf]; unfold flg; rw [List.getElem?_eq_none (by rw [HBN.out]; omega)]; rfl
          subst hf0
          clear hf
          go_wp2_with fail
          go_meet
          exact ⟨rfl, rfl⟩
      case rest =>
        obtain ⟨rfl, rfl⟩ := hcut
        clear hf
        have HRL := Lib.hid (RI.out.later hG4)
        have hl3 := Lib.hid ((HM.out.at' ti (List.mem_of_getElem? HTI.out)).2.2)
        go_upto_if 38 with fail
        go_cut [41] (fun _ wx => P9t wr M ti f wx)
        case first =>
          cases f
          · go_wp2_with fail
            go_meet
            exact ⟨_, C1, HRL.out⟩
          · have k1 := C1.fact (.head _) (i := 1) rfl
            go_wp2_with fail
            refine (lreverse_any _ _ _ HRL.out (by have := hl3.out.1.2; omega)).mono ?_
            rintro e w5 ⟨u, rfl, hU, B5⟩
            have C5 := C1.later B5
            clear k1
            obtain ⟨ua, uc, rfl, -⟩ := hU.row
            have k1 := C5.fact (.head _) (i := 1) rfl
            have f1 := C5.free (.head _) (i := 1) rfl
            have XE := C5.set 1 (by simp) (.slice ua ti.ln.reverse.length uc)
            have mE := hU.setB (B := M) (i := 1) (u := .slice ua ti.ln.reverse.length uc) (fun e => by have := (hU.lt e).1; omega)
            simp only [List.length_reverse] at XE mE ⊢
            go_wp2_with fail
            go_meet
            exact ⟨_, XE, mE.row⟩
        case rest =>
          obtain ⟨lu, C5, RL⟩ := hcut
          rename World => wb
          clear C1
          obtain ⟨lua, N, luc, rfl, hNl, RL⟩ := RL.form
          obtain ⟨-, hlu1, hlu2⟩ := RL.len
          rw [hNl] at hlu1
          have h20 : In20 ti.ln := hl3.out.2
          have hlen : N = ti.ln.length := by rw [← hNl]; unfold rvl; split <;> simp
          have hN3 : N ≤ 3 := by have := hl3.out.1.2; omega
          have hN2 : 2 ≤ N := by have := hl3.out.1.1; omega
          generalize hL : rvl f ti.ln = L at *
          have HNL := Lib.hid hNl
          have HLL := Lib.hid hL
          have HRL2 := Lib.hid RL
          have HM1 := Lib.hid (C5.fact (.head _) (i := 1) rfl)
          have hGb : Below w2.heap.size w2 wb := HGr.out.trans (C5.low.mono HGr.out.size)
          have d0 := Lib.hid ((Below.cell hGb (World.block_lt_of_cell? w2 _ c0.out)).trans c0.out)
          have d1 := Lib.hid ((Below.cell hGb (World.block_lt_of_cell? w2 _ c1.out)).trans c1.out)
          have d2 := Lib.hid ((Below.cell hGb (World.block_lt_of_cell? w2 _ c2.out)).trans c2.out)
          have hOb := Own.nil wb.heap.size wb
          clear RL hNl hL hlen
          go_wp2_with fail
          go_loopw [12, 13] (fun m r W => ∃ k : Nat, k ≤ N ∧ r = .int .i64 k ∧ Below wb.heap.size wb W ∧ Own wb.heap.size W m ((L.take k).map (mvP q0 q1 q2))) (fun _ r _ => N - (RowKit.intOf r).toNat)
          case atStart => exact ⟨0, Nat.zero_le _, rfl, Below.refl _ _, hOb⟩
          case round =>
            clear hOb
            obtain ⟨k, hk, rfl, hGk, hOk⟩ := hrel
            have m1 := (Below.cell hGk (World.block_lt_of_cell? wb _ HM1.out)).trans HM1.out
            by_cases hkN : k < N
            · have e1 : (k : Int) < N := by omega
              have e2 : (0 : Int) ≤ k := by omega
              obtain ⟨⟨x, y⟩, hxy⟩ : ∃ p, L[k]? = some p := ⟨_, List.getElem?_eq_getElem (by rw [HNL.out]; exact hkN)⟩
              obtain ⟨lb, lo, rfl, hq⟩ := HRL2.out.spot (by rw [HNL.out]; omega)
              obtain ⟨hx0, hx1⟩ := hq k _ hxy
              have HX0 := Lib.hid hx0
              have HX1 := Lib.hid hx1
              have HXY := Lib.hid hxy
              have kw : IntKind.i64.wrap ((k : Int) + 1) = (k : Int) + 1 := by rw [IntKind.wrap_i64]; omega
              clear hq hx0 hx1 hxy
              have HS2 := Lib.hid (show ∀ w', Below wb.heap.size wb w' → (w'.cell? ⟨M, 1, none⟩ = some (.slice (some ⟨lb, lo, none⟩) N luc) ∧ w'.cell? ⟨A, 0, none⟩ = some (.int .i64 q0) ∧ w'.cell? ⟨A, 1, none⟩ = some (.int .i64 q1) ∧ w'.cell? ⟨A, 2, none⟩ = some (.int .i64 q2) ∧ w'.cell? ⟨lb, lo + k * 2, none⟩ = some (.int .i64 x) ∧ w'.cell? ⟨lb, lo + k * 2 + 1, none⟩ = some (.int .i64 y)) ∧ Below wb.heap.size wb w' from fun w' h => ⟨⟨(Below.cell h (World.block_lt_of_cell? wb _ HM1.out)).trans HM1.out, (Below.cell h (World.block_lt_of_cell? wb _ d0.out)).trans d0.out, (Below.cell h (World.block_lt_of_cell? wb _ d1.out)).trans d1.out, (Below.cell h (World.block_lt_of_cell? wb _ d2.out)).trans d2.out, (Below.cell h (World.block_lt_of_cell? wb _ HX0.out)).trans HX0.out, (Below.cell h (World.block_lt_of_cell? wb _ HX1.out)).trans HX1.out⟩, h⟩)
              go_upto_region 14 with fail
              clear m1
              have X0 := hGk.drew
              have hOd := hOk.later ((Below.refl _ wr).drew)
              refine wp_region_held_drew (S := (fun w' => (w'.cell? ⟨M, 1, none⟩ = some (.slice (some ⟨lb, lo, none⟩) N luc) ∧ w'.cell? ⟨A, 0, none⟩ = some (.int .i64 q0) ∧ w'.cell? ⟨A, 1, none⟩ = some (.int .i64 q1) ∧ w'.cell? ⟨A, 2, none⟩ = some (.int .i64 q2) ∧ w'.cell? ⟨lb, lo + k * 2, none⟩ = some (.int .i64 x) ∧ w'.cell? ⟨lb, lo + k * 2 + 1, none⟩ = some (.int .i64 y)) ∧ Below wb.heap.size wb w')) (by kernel_rfl) (HS2.out _ X0) (fun hHeld => ?_)
              generalize wr.drew = v0 at *
              clear hGk hOk
              refine wpAnyT_begin [0, 1, 2, 3, 4, 5] (by kernel_rfl) (by kernel_rfl) ?_
              refine wpAnyT_take (oi := ⟨some 50, Op.move (Operand.tmp 12), 42, _, _, none⟩) (v := u12) rfl (fun _ _ _ h => h) (by rfl) (by assumption) (fun wS hSw => ?_) ?_
              · (try dsimp only at hSw); go_simp
              simp only [Act.put, List.setIfInBounds_toArray, List.set_cons_zero, List.set_cons_succ]
              refine wpAnyT_take (oi := ⟨some 51, Op.fieldAddr 44 (Operand.tmp 11) 1, 0, _, _, none⟩) (v := .pointer (some ⟨M, 1, none⟩)) rfl (fun _ _ _ h => h) (by rfl) (by assumption) (fun wS hSw => ?_) ?_
              · (try dsimp only at hSw); go_simp
              simp only [Act.put, List.setIfInBounds_toArray, List.set_cons_zero, List.set_cons_succ]
              refine wpAnyT_take (oi := ⟨some 52, Op.load 42 (Operand.tmp 51), 42, _, _, none⟩) (v := .slice (some ⟨lb, lo, none⟩) N luc) rfl (fun _ _ _ h => h) (by rfl) (by assumption) (fun wS hSw => ?_) ?_
              · (try dsimp only at hSw); go_simp
              simp only [Act.put, List.setIfInBounds_toArray, List.set_cons_zero, List.set_cons_succ]
              refine wpAnyT_take (oi := ⟨some 53, Op.move (Operand.tmp 13), 3, _, _, none⟩) (v := .int .i64 k) rfl (fun _ _ _ h => h) (by rfl) (by assumption) (fun wS hSw => ?_) ?_
              · (try dsimp only at hSw); go_simp
              simp only [Act.put, List.setIfInBounds_toArray, List.set_cons_zero, List.set_cons_succ]
              refine wpAnyT_take (oi := ⟨some 54, Op.indexAddr 42 (Operand.tmp 52) (Operand.tmp 53), 0, _, _, none⟩) (v := .pointer (some ⟨lb, lo + k * 2, none⟩)) rfl (fun _ _ _ h => h) (by rfl) (by assumption) (fun wS hSw => ?_) ?_
              · (try dsimp only at hSw); go_simp
              simp only [Act.put, List.setIfInBounds_toArray, List.set_cons_zero, List.set_cons_succ]
              refine wpAnyT_take (oi := ⟨some 55, Op.load 37 (Operand.tmp 54), 37, _, _, none⟩) (v := .agg #[.int .i64 x, .int .i64 y]) rfl (fun _ _ _ h => h) (by rfl) (by assumption) (fun wS hSw => ?_) ?_
              · (try dsimp only at hSw); go_simp
              simp only [Act.put, List.setIfInBounds_toArray, List.set_cons_zero, List.set_cons_succ]
              refine wpAnyT_end ?_
              refine wpAnyH_listed #[true, true, true, true, true, true, false, false, false, false, false, false, false, false, false, false, false, false, false, false, false] (by kernel_rfl) ?_
              refine wpAnyT_begin [6, 7, 8, 10, 11, 12] (by kernel_rfl) (by kernel_rfl) ?_
              refine wpAnyT_take (oi := ⟨some 56, Op.indexAddr 53 (Operand.tmp 5) (Operand.const (Value.int IntKind.i64 0)), 0, _, _, none⟩) (v := .pointer (some ⟨A, 0, none⟩)) rfl (fun _ _ _ h => h) (by rfl) (by assumption) (fun wS hSw => ?_) ?_
              · (try dsimp only at hSw); go_simp
              simp only [Act.put, List.setIfInBounds_toArray, List.set_cons_zero, List.set_cons_succ]
              refine wpAnyT_take (oi := ⟨some 57, Op.load 3 (Operand.tmp 56), 3, _, _, none⟩) (v := .int .i64 q0) rfl (fun _ _ _ h => h) (by rfl) (by assumption) (fun wS hSw => ?_) ?_
              · (try dsimp only at hSw); go_simp
              simp only [Act.put, List.setIfInBounds_toArray, List.set_cons_zero, List.set_cons_succ]
              refine wpAnyT_take (oi := ⟨some 58, Op.binOp BinOp.rem 3 (Operand.tmp 57) (Operand.const (Value.int IntKind.i64 4)) 3, 3, _, _, none⟩) (v := .int .i64 (q0.tmod 4)) rfl (fun _ _ _ h => h) (by rfl) (by assumption) (fun wS hSw => ?_) ?_
              · (try dsimp only at hSw); go_simp
              simp only [Act.put, List.setIfInBounds_toArray, List.set_cons_zero, List.set_cons_succ]
              refine wpAnyT_take (oi := ⟨some 60, Op.indexAddr 53 (Operand.tmp 5) (Operand.const (Value.int IntKind.i64 1)), 0, _, _, none⟩) (v := .pointer (some ⟨A, 1, none⟩)) rfl (fun _ _ _ h => h) (by rfl) (by assumption) (fun wS hSw => ?_) ?_
              · (try dsimp only at hSw); go_simp
              simp only [Act.put, List.setIfInBounds_toArray, List.set_cons_zero, List.set_cons_succ]
              refine wpAnyT_take (oi := ⟨some 61, Op.load 3 (Operand.tmp 60), 3, _, _, none⟩) (v := .int .i64 q1) rfl (fun _ _ _ h => h) (by rfl) (by assumption) (fun wS hSw => ?_) ?_
              · (try dsimp only at hSw); go_simp
              simp only [Act.put, List.setIfInBounds_toArray, List.set_cons_zero, List.set_cons_succ]
              refine wpAnyT_take (oi := ⟨some 62, Op.binOp BinOp.rem 3 (Operand.tmp 61) (Operand.const (Value.int IntKind.i64 10000)) 3, 3, _, _, none⟩) (v := .int .i64 (q1.tmod 10000)) rfl (fun _ _ _ h => h) (by rfl) (by assumption) (fun wS hSw => ?_) ?_
              · (try dsimp only at hSw); go_simp
              simp only [Act.put, List.setIfInBounds_toArray, List.set_cons_zero, List.set_cons_succ]
              refine wpAnyT_end ?_
              refine wpAnyH_listed #[true, true, true, true, true, true, true, true, true, false, true, true, true, false, false, false, false, false, false, false, false] (by kernel_rfl) ?_
              refine wpAnyT_begin [13, 14, 15, 16] (by kernel_rfl) (by kernel_rfl) ?_
              refine wpAnyT_take (oi := ⟨some 63, Op.indexAddr 53 (Operand.tmp 5) (Operand.const (Value.int IntKind.i64 2)), 0, _, _, none⟩) (v := .pointer (some ⟨A, 2, none⟩)) rfl (fun _ _ _ h => h) (by rfl) (by assumption) (fun wS hSw => ?_) ?_
              · (try dsimp only at hSw); go_simp
              simp only [Act.put, List.setIfInBounds_toArray, List.set_cons_zero, List.set_cons_succ]
              refine wpAnyT_take (oi := ⟨some 64, Op.load 3 (Operand.tmp 63), 3, _, _, none⟩) (v := .int .i64 q2) rfl (fun _ _ _ h => h) (by rfl) (by assumption) (fun wS hSw => ?_) ?_
              · (try dsimp only at hSw); go_simp
              simp only [Act.put, List.setIfInBounds_toArray, List.set_cons_zero, List.set_cons_succ]
              refine wpAnyT_take (oi := ⟨some 65, Op.binOp BinOp.rem 3 (Operand.tmp 64) (Operand.const (Value.int IntKind.i64 10000)) 3, 3, _, _, none⟩) (v := .int .i64 (q2.tmod 10000)) rfl (fun _ _ _ h => h) (by rfl) (by assumption) (fun wS hSw => ?_) ?_
              · (try dsimp only at hSw); go_simp
              simp only [Act.put, List.setIfInBounds_toArray, List.set_cons_zero, List.set_cons_succ]
              refine wpAnyT_take (oi := ⟨some 66, Op.build 37 #[(0, Operand.tmp 62), (1, Operand.tmp 65)], 37, _, _, none⟩) (v := .agg #[.int .i64 (q1.tmod 10000), .int .i64 (q2.tmod 10000)]) rfl (fun _ _ _ h => h) (by rfl) (by assumption) (fun wS hSw => ?_) ?_
              · (try dsimp only at hSw); go_simp
              simp only [Act.put, List.setIfInBounds_toArray, List.set_cons_zero, List.set_cons_succ]
              refine wpAnyT_end ?_
              refine wpAnyH_listed #[true, true, true, true, true, true, true, true, true, false, true, true, true, true, true, true, true, false, false, false, false] (by kernel_rfl) ?_
              refine wpAnyH_ready (rs := [9]) (by kernel_rfl) (by simp) ?_
              refine AllReadyH.cons (o := ⟨some 59, Op.call { callee := Callee.value (Operand.func 29), args := #[Operand.tmp 55, Operand.tmp 58], argTypes := #[37, 3] }, 37, _, _, none⟩) rfl (fun K hK => ?_) AllReadyH.nil
              go_simp
              go_at_call 29
              refine (turn_any x y (q0.tmod 4) _).mono ?_
              rintro e v1 ⟨rfl, B1⟩
              have X1 := X0.trans (B1.mono X0.size)
              have hO1 := hOd.later B1
              go_wp2_with fail
              clear hHeld
              refine hK.out _ _ (HS2.out _ X1) (fun hHeld => ?_)
              clear hK K
              try simp only [List.setIfInBounds_toArray, List.set_cons_zero, List.set_cons_succ]
              refine wpAnyH_listed #[true, true, true, true, true, true, true, true, true, true, true, true, true, true, true, true, true, false, false, false, false] (by kernel_rfl) ?_
              clear X0 hOd B1
              refine wpAnyH_ready (rs := [17]) (by kernel_rfl) (by simp) ?_
              refine AllReadyH.cons (o := ⟨some 67, Op.call { callee := Callee.value (Operand.func 28), args := #[Operand.tmp 59, Operand.tmp 66], argTypes := #[37, 37] }, 37, _, _, none⟩) rfl (fun K hK => ?_) AllReadyH.nil
              go_simp
              go_at_call 28
              refine (add_any _ _ (q1.tmod 10000) (q2.tmod 10000) _).mono ?_
              rintro e v2 ⟨rfl, B2⟩
              have X2 := X1.trans (B2.mono X1.size)
              have hO2 := hO1.later B2
              go_wp2_with fail
              clear hHeld
              refine hK.out _ _ (HS2.out _ X2) (fun hHeld => ?_)
              clear hK K
              try simp only [List.setIfInBounds_toArray, List.set_cons_zero, List.set_cons_succ]
              refine wpAnyH_listed #[true, true, true, true, true, true, true, true, true, true, true, true, true, true, true, true, true, true, false, false, false] (by kernel_rfl) ?_
              clear X1 hO1 B2
              skip
              refine wpAnyH_ready (rs := [18]) (by kernel_rfl) (by simp) ?_
              refine AllReadyH.cons (o := ⟨some 68, Op.buildSlice 42 1 #[(0, Operand.tmp 67)], 42, _, _, none⟩) rfl (fun K hK => ?_) AllReadyH.nil
              go_simp
              have Rq : RowP (v2.alloc (.cells #[.int .i64 (wrap64 ((rotN (q0.tmod 4 % 4).toNat x y).1 + q1.tmod 10000)), .int .i64 (wrap64 ((rotN (q0.tmod 4 % 4).toNat x y).2 + q2.tmod 10000))] 37)) (.slice (some ⟨v2.heap.size, 0, none⟩) 1 1) [((wrap64 ((rotN (q0.tmod 4 % 4).toNat x y).1 + q1.tmod 10000)), (wrap64 ((rotN (q0.tmod 4 % 4).toNat x y).2 + q2.tmod 10000)))] := (own_one rfl (Nat.le_refl _) rfl).row
              have X3 := X2.trans (((Below.refl _ v2).alloc (Nat.le_refl _) (.cells #[.int .i64 (wrap64 ((rotN (q0.tmod 4 % 4).toNat x y).1 + q1.tmod 10000)), .int .i64 (wrap64 ((rotN (q0.tmod 4 % 4).toNat x y).2 + q2.tmod 10000))] 37)).mono X2.size)
              have hO3 := hO2.later ((Below.refl _ v2).alloc (Nat.le_refl _) (.cells #[.int .i64 (wrap64 ((rotN (q0.tmod 4 % 4).toNat x y).1 + q1.tmod 10000)), .int .i64 (wrap64 ((rotN (q0.tmod 4 % 4).toNat x y).2 + q2.tmod 10000))] 37))
              generalize v2.alloc (.cells #[.int .i64 (wrap64 ((rotN (q0.tmod 4 % 4).toNat x y).1 + q1.tmod 10000)), .int .i64 (wrap64 ((rotN (q0.tmod 4 % 4).toNat x y).2 + q2.tmod 10000))] 37) = v3 at *
              generalize v2.heap.size = N3 at *
              clear hHeld
              refine hK.out _ _ (HS2.out _ X3) (fun hHeld => ?_)
              clear hK K
              try simp only [List.setIfInBounds_toArray, List.set_cons_zero, List.set_cons_succ]
              refine wpAnyH_listed #[true, true, true, true, true, true, true, true, true, true, true, true, true, true, true, true, true, true, true, false, false] (by kernel_rfl) ?_
              clear X2 hO2
              refine wpAnyH_ready (rs := [19]) (by kernel_rfl) (by simp) ?_
              refine AllReadyH.cons (o := ⟨some 69, Op.call { callee := Callee.builtin Builtin.append, args := #[Operand.tmp 50, Operand.tmp 68], argTypes := #[42, 42] }, 42, _, _, none⟩) rfl (fun K hK => ?_) AllReadyH.nil
              refine held_append_pts2 rfl _ _ rfl rfl hO3 rfl Rq (by rw [List.length_map, List.length_take]; omega) X3.size ?_
              rintro u4 v4 hO4 hG4 -
              have X4 := grow_append X3 hO3 (Nat.le_refl _) hG4
              clear hHeld
              refine hK.out _ _ (HS2.out _ X4) (fun hHeld => ?_)
              clear hK K
              try simp only [List.setIfInBounds_toArray, List.set_cons_zero, List.set_cons_succ]
              refine wpAnyH_listed #[true, true, true, true, true, true, true, true, true, true, true, true, true, true, true, true, true, true, true, true, false] (by kernel_rfl) ?_
              clear X3 hO3 hG4 Rq
              refine wpAnyT_begin [20] (by kernel_rfl) (by kernel_rfl) ?_
              refine wpAnyT_take (oi := ⟨some 12, Op.assign (Operand.tmp 69), 42, _, _, none⟩) (v := u4) rfl (fun _ _ _ h => h) (by rfl) (by assumption) (fun wS hSw => ?_) ?_
              · (try dsimp only at hSw); go_simp
              simp only [Act.put, List.setIfInBounds_toArray, List.set_cons_zero, List.set_cons_succ]
              refine wpAnyT_end ?_
              refine wpAnyH_listed #[true, true, true, true, true, true, true, true, true, true, true, true, true, true, true, true, true, true, true, true, true] (by kernel_rfl) ?_
              refine wpAnyH_done (by kernel_rfl) ?_ _
              clear hHeld HS2
              have hOn : Own wb.heap.size v4 u4 ((L.take (k + 1)).map (mvP q0 q1 q2)) := by
                have : (L.take (k + 1)).map (mvP q0 q1 q2) = (L.take k).map (mvP q0 q1 q2) ++ [mvP q0 q1 q2 (x, y)] := by rw [take_snoc HXY.out, List.map_append]; rfl
                rw [this]; exact hO4
              clear hO4
              go_wp2_with fail
              go_roundw
              case rel => exact ⟨k + 1, by omega, by go_num, X4, hOn⟩
              case measure => simp [RowKit.intOf]; omega
            · obtain rfl : k = N := by omega
              have e9 : ¬ (k : Int) < k := by omega
              have hOL : Own wb.heap.size wr u12 (tnl q0 q1 q2 f ti.ln) := by
                have := hOk
                rw [← HNL.out, List.take_length] at this
                unfold tnl
                rw [HLL.out]
                exact this
              have C6 := C5.later hGk
              have hMb := C5.lt0
              obtain ⟨ma, mc, rfl, -⟩ := hOL.row
              generalize hmn : (tnl q0 q1 q2 f ti.ln).length = mn at *
              have k1 := C6.fact (.head _) (i := 1) rfl
              have f1 := C6.free (.head _) (i := 1) rfl
              have C7 : Has _ [(M, [.int .i64 ti.id, .slice ma mn mc, .int .i64 ti.lv, .string ti.cl, .string ti.nm, .bool ti.st, .int .i64 ti.wt, .int .i64 ti.ds])] (wr.setCell ⟨M, 1, none⟩ (.slice ma mn mc)) := C6.set 1 (by simp) (.slice ma mn mc)
              have hOL7 := hOL.setB (B := M) (i := 1) (u := .slice ma mn mc) (fun e => by have := (hOL.lt e).1; omega)
              have hwb := hGb.size
              clear hOk hOL C6
              go_upto_region 16 with fail
              generalize wr.setCell ⟨M, 1, none⟩ (.slice ma mn mc) = w7 at *
              clear k1 f1 m1 hGk
              have hO7 := HO.out.later C7.low
              have hG7 := HGr.out.trans (C7.low.mono HGr.out.size)
              obtain ⟨g0, g1, g2, g3, g4, g5, g6, g7⟩ := C7.wy
              have C9 := C7.push [.int .i64 ti.id, .slice ma mn mc, .int .i64 ti.lv, .string ti.cl, .string ti.nm, .bool ti.st, .int .i64 ti.wt, .int .i64 ti.ds] 44
              have hO10 := hO7.later ((Below.refl _ w7).alloc (Nat.le_refl _) (.cells #[.int .i64 ti.id, .slice ma mn mc, .int .i64 ti.lv, .string ti.cl, .string ti.nm, .bool ti.st, .int .i64 ti.wt, .int .i64 ti.ds] 44))
              have m10 := (hOL7.base hwb).later ((Below.refl _ w7).alloc (Nat.le_refl _) (.cells #[.int .i64 ti.id, .slice ma mn mc, .int .i64 ti.lv, .string ti.cl, .string ti.nm, .bool ti.st, .int .i64 ti.wt, .int .i64 ti.ds] 44))
              have hG10 := hG7.trans (((Below.refl _ w7).alloc (Nat.le_refl _) (.cells #[.int .i64 ti.id, .slice ma mn mc, .int .i64 ti.lv, .string ti.cl, .string ti.nm, .bool ti.st, .int .i64 ti.wt, .int .i64 ti.ds] 44)).mono hG7.size)
              change Has _ _ (w7.alloc (.cells #[.int .i64 ti.id, .slice ma mn mc, .int .i64 ti.lv, .string ti.cl, .string ti.nm, .bool ti.st, .int .i64 ti.wt, .int .i64 ti.ds] 44)) at C9
              have c9 := C9.wy
              clear hO7 hOL7 C7
              go_wp2_with (at_builtin; refine wpList_append_way (e := tnW q0 q1 q2 f ti) rfl _ _ rfl rfl hO10 rfl m10 c9 (by unfold tnWs; rw [List.length_map, List.length_take]; omega) hG10.size ?_)
              intro u8 w8 hO11 hG8
              have hG11 := OwnW.grows hG10 hO10 (Nat.le_refl _) hG8
              have hOn : OwnW w2.heap.size w8 u8 (tnWs q0 q1 q2 ((prs ws bs).take (i + 1))) := by
                have e : (prs ws bs)[i]? = some (ti, f) := by rw [prs_at, HTI.out, HF.out]; rfl
                rw [take_snoc e]
                unfold tnWs at hO11 ⊢
                rw [List.map_append]
                exact hO11
              clear hO10 m10 C9 c9 hO11 hG8 hG10 hG7 g0 g1 g2 g3 g4 g5 g6 g7
              go_wp2_with fail
              go_roundw
              case rel => exact ⟨i + 1, by omega, by go_num, hG11, hOn⟩
              case measure => simp [RowKit.intOf]; omega
    · obtain rfl : n = i := by omega
      have b1 : ¬ (n : Int) < n := by omega
      have hRO := hO.row
      rw [show (prs ws bs).take n = prs ws bs from List.take_of_length_le (by rw [prs_len, HN.out]; exact Nat.le_refl _)] at hRO
      obtain ⟨oa, on, oc, rfl, hon, ho1, ho2, hRO⟩ := hRO.form
      obtain rfl : on = n := by rw [← hon, ← HN.out]; unfold tnWs; rw [List.length_map, prs_len]
      rename World => w5
      have HW5 := Lib.hid (HW.out.later hG)
      have HO5 := Lib.hid hRO
      have HB5 := Lib.hid (HB.out.trans (hG.mono HB.out.size))
      clear hO hRO hG
      go_wp2_with fail
      go_loopw [14] (fun r wr => ∃ i : Nat, i ≤ on ∧ r = .int .i64 i ∧ Below w5.heap.size w5 wr) (fun r _ => on - (RowKit.intOf r).toNat)
      case atStart => exact ⟨0, Nat.zero_le _, rfl, Below.refl _ _⟩
      case round =>
        obtain ⟨i, hi, rfl, hG⟩ := hrel
        by_cases hin : i < on
        · have b2 : (i : Int) < on := by omega
          have b3 : (0 : Int) ≤ i := by omega
          obtain ⟨bb, oo, rfl, hcell⟩ := HW5.out.spot (by rw [HN.out]; omega)
          obtain ⟨ob, ot, rfl, hcello⟩ := HO5.out.spot (by rw [hon]; omega)
          obtain ⟨ti, hti⟩ : ∃ t, ws[i]? = some t := ⟨_, List.getElem?_eq_getElem (by rw [HN.out]; omega)⟩
          obtain ⟨ui, ri, ai⟩ := hcell i ti hti
          obtain ⟨si, hsi⟩ : ∃ t, tnW q0 q1 q2 (flg bs i) ti = t := ⟨_, rfl⟩
          have hto : (tnWs q0 q1 q2 (prs ws bs))[i]? = some si := by unfold tnWs; rw [List.getElem?_map, prs_at, hti, ← hsi]; rfl
          obtain ⟨vi, pi, aoi⟩ := hcello i si hto
          have HTI := Lib.hid hti
          have HSI := Lib.hid hsi
          have RI := Lib.hid ri
          have QI := Lib.hid pi
          have HA1 := Lib.hid ai
          have HA3 := Lib.hid aoi
          have HC := Lib.hid hcell
          have HCO := Lib.hid hcello
          have HI20 := Lib.hid ((HM.out.at' ti (List.mem_of_getElem? hti)).2.2.2)
          clear hti hsi ri pi ai aoi hcell hcello hto
          go_wp2_with fail
          go_loopw [15] (fun r wr => ∃ k : Nat, k ≤ on ∧ r = .int .i64 k ∧ Below w5.heap.size w5 wr) (fun r _ => on - (RowKit.intOf r).toNat)
          case atStart => exact ⟨0, Nat.zero_le _, rfl, hG⟩
          case round =>
            clear hG
            obtain ⟨k, hk, rfl, hG2⟩ := hrel
            by_cases hkn : k < on
            · have b5 : (k : Int) < on := by omega
              have b6 : (0 : Int) ≤ k := by omega
              obtain ⟨tk, htk⟩ : ∃ t, ws[k]? = some t := ⟨_, List.getElem?_eq_getElem (by rw [HN.out]; omega)⟩
              obtain ⟨uk, rk, ak⟩ := HC.out k tk htk
              obtain ⟨sk, hsk⟩ : ∃ t, tnW q0 q1 q2 (flg bs k) tk = t := ⟨_, rfl⟩
              have hto : (tnWs q0 q1 q2 (prs ws bs))[k]? = some sk := by unfold tnWs; rw [List.getElem?_map, prs_at, htk, ← hsk]; rfl
              obtain ⟨vk, pk, aok⟩ := HCO.out k sk hto
              have RK := Lib.hid rk
              have QK := Lib.hid pk
              have HA2 := Lib.hid ak
              have HA4 := Lib.hid aok
              have h2 : In20 tk.ln := (HM.out.at' tk (List.mem_of_getElem? htk)).2.2.2
              obtain ⟨jb, hjb⟩ : ∃ jb, joinP ti tk = jb := ⟨_, rfl⟩
              obtain ⟨cb, hcb⟩ : ∃ cb, crossW ti tk = cb := ⟨_, rfl⟩
              have HJ1 := Lib.hid hjb
              have HC1 := Lib.hid hcb
              have HJ2 := Lib.hid (show joinP si sk = jb by rw [← HSI.out, ← hsk, join_tn HI20.out h2]; exact hjb)
              have HC2 := Lib.hid (show crossW sk si = cb by rw [← HSI.out, ← hsk, cross_tn HI20.out h2]; exact hcb)
              have kw : IntKind.i64.wrap ((k : Int) + 1) = (k : Int) + 1 := by rw [IntKind.wrap_i64]; omega
              clear htk rk pk ak aok hto hsk hjb hcb h2
              have HS2 := Lib.hid (show ∀ w', Below w5.heap.size w5 w' → (w'.cell? ⟨bb, oo + i * 8, none⟩ = some (.int .i64 ti.id) ∧ w'.cell? ⟨bb, oo + i * 8 + 1, none⟩ = some (ui) ∧ w'.cell? ⟨bb, oo + i * 8 + 2, none⟩ = some (.int .i64 ti.lv) ∧ w'.cell? ⟨bb, oo + i * 8 + 3, none⟩ = some (.string ti.cl) ∧ w'.cell? ⟨bb, oo + i * 8 + 4, none⟩ = some (.string ti.nm) ∧ w'.cell? ⟨bb, oo + i * 8 + 5, none⟩ = some (.bool ti.st) ∧ w'.cell? ⟨bb, oo + i * 8 + 6, none⟩ = some (.int .i64 ti.wt) ∧ w'.cell? ⟨bb, oo + i * 8 + 7, none⟩ = some (.int .i64 ti.ds) ∧ w'.cell? ⟨bb, oo + k * 8, none⟩ = some (.int .i64 tk.id) ∧ w'.cell? ⟨bb, oo + k * 8 + 1, none⟩ = some (uk) ∧ w'.cell? ⟨bb, oo + k * 8 + 2, none⟩ = some (.int .i64 tk.lv) ∧ w'.cell? ⟨bb, oo + k * 8 + 3, none⟩ = some (.string tk.cl) ∧ w'.cell? ⟨bb, oo + k * 8 + 4, none⟩ = some (.string tk.nm) ∧ w'.cell? ⟨bb, oo + k * 8 + 5, none⟩ = some (.bool tk.st) ∧ w'.cell? ⟨bb, oo + k * 8 + 6, none⟩ = some (.int .i64 tk.wt) ∧ w'.cell? ⟨bb, oo + k * 8 + 7, none⟩ = some (.int .i64 tk.ds) ∧ w'.cell? ⟨ob, ot + i * 8, none⟩ = some (.int .i64 si.id) ∧ w'.cell? ⟨ob, ot + i * 8 + 1, none⟩ = some (vi) ∧ w'.cell? ⟨ob, ot + i * 8 + 2, none⟩ = some (.int .i64 si.lv) ∧ w'.cell? ⟨ob, ot + i * 8 + 3, none⟩ = some (.string si.cl) ∧ w'.cell? ⟨ob, ot + i * 8 + 4, none⟩ = some (.string si.nm) ∧ w'.cell? ⟨ob, ot + i * 8 + 5, none⟩ = some (.bool si.st) ∧ w'.cell? ⟨ob, ot + i * 8 + 6, none⟩ = some (.int .i64 si.wt) ∧ w'.cell? ⟨ob, ot + i * 8 + 7, none⟩ = some (.int .i64 si.ds) ∧ w'.cell? ⟨ob, ot + k * 8, none⟩ = some (.int .i64 sk.id) ∧ w'.cell? ⟨ob, ot + k * 8 + 1, none⟩ = some (vk) ∧ w'.cell? ⟨ob, ot + k * 8 + 2, none⟩ = some (.int .i64 sk.lv) ∧ w'.cell? ⟨ob, ot + k * 8 + 3, none⟩ = some (.string sk.cl) ∧ w'.cell? ⟨ob, ot + k * 8 + 4, none⟩ = some (.string sk.nm) ∧ w'.cell? ⟨ob, ot + k * 8 + 5, none⟩ = some (.bool sk.st) ∧ w'.cell? ⟨ob, ot + k * 8 + 6, none⟩ = some (.int .i64 sk.wt) ∧ w'.cell? ⟨ob, ot + k * 8 + 7, none⟩ = some (.int .i64 sk.ds)) ∧ Below w5.heap.size w5 w' from fun w' h => ⟨⟨(Below.cell h (World.block_lt_of_cell? w5 _ HA1.out.1)).trans HA1.out.1, (Below.cell h (World.block_lt_of_cell? w5 _ HA1.out.2.1)).trans HA1.out.2.1, (Below.cell h (World.block_lt_of_cell? w5 _ HA1.out.2.2.1)).trans HA1.out.2.2.1, (Below.cell h (World.block_lt_of_cell? w5 _ HA1.out.2.2.2.1)).trans HA1.out.2.2.2.1, (Below.cell h (World.block_lt_of_cell? w5 _ HA1.out.2.2.2.2.1)).trans HA1.out.2.2.2.2.1, (Below.cell h (World.block_lt_of_cell? w5 _ HA1.out.2.2.2.2.2.1)).trans HA1.out.2.2.2.2.2.1, (Below.cell h (World.block_lt_of_cell? w5 _ HA1.out.2.2.2.2.2.2.1)).trans HA1.out.2.2.2.2.2.2.1, (Below.cell h (World.block_lt_of_cell? w5 _ HA1.out.2.2.2.2.2.2.2)).trans HA1.out.2.2.2.2.2.2.2, (Below.cell h (World.block_lt_of_cell? w5 _ HA2.out.1)).trans HA2.out.1, (Below.cell h (World.block_lt_of_cell? w5 _ HA2.out.2.1)).trans HA2.out.2.1, (Below.cell h (World.block_lt_of_cell? w5 _ HA2.out.2.2.1)).trans HA2.out.2.2.1, (Below.cell h (World.block_lt_of_cell? w5 _ HA2.out.2.2.2.1)).trans HA2.out.2.2.2.1, (Below.cell h (World.block_lt_of_cell? w5 _ HA2.out.2.2.2.2.1)).trans HA2.out.2.2.2.2.1, (Below.cell h (World.block_lt_of_cell? w5 _ HA2.out.2.2.2.2.2.1)).trans HA2.out.2.2.2.2.2.1, (Below.cell h (World.block_lt_of_cell? w5 _ HA2.out.2.2.2.2.2.2.1)).trans HA2.out.2.2.2.2.2.2.1, (Below.cell h (World.block_lt_of_cell? w5 _ HA2.out.2.2.2.2.2.2.2)).trans HA2.out.2.2.2.2.2.2.2, (Below.cell h (World.block_lt_of_cell? w5 _ HA3.out.1)).trans HA3.out.1, (Below.cell h (World.block_lt_of_cell? w5 _ HA3.out.2.1)).trans HA3.out.2.1, (Below.cell h (World.block_lt_of_cell? w5 _ HA3.out.2.2.1)).trans HA3.out.2.2.1, (Below.cell h (World.block_lt_of_cell? w5 _ HA3.out.2.2.2.1)).trans HA3.out.2.2.2.1, (Below.cell h (World.block_lt_of_cell? w5 _ HA3.out.2.2.2.2.1)).trans HA3.out.2.2.2.2.1, (Below.cell h (World.block_lt_of_cell? w5 _ HA3.out.2.2.2.2.2.1)).trans HA3.out.2.2.2.2.2.1, (Below.cell h (World.block_lt_of_cell? w5 _ HA3.out.2.2.2.2.2.2.1)).trans HA3.out.2.2.2.2.2.2.1, (Below.cell h (World.block_lt_of_cell? w5 _ HA3.out.2.2.2.2.2.2.2)).trans HA3.out.2.2.2.2.2.2.2, (Below.cell h (World.block_lt_of_cell? w5 _ HA4.out.1)).trans HA4.out.1, (Below.cell h (World.block_lt_of_cell? w5 _ HA4.out.2.1)).trans HA4.out.2.1, (Below.cell h (World.block_lt_of_cell? w5 _ HA4.out.2.2.1)).trans HA4.out.2.2.1, (Below.cell h (World.block_lt_of_cell? w5 _ HA4.out.2.2.2.1)).trans HA4.out.2.2.2.1, (Below.cell h (World.block_lt_of_cell? w5 _ HA4.out.2.2.2.2.1)).trans HA4.out.2.2.2.2.1, (Below.cell h (World.block_lt_of_cell? w5 _ HA4.out.2.2.2.2.2.1)).trans HA4.out.2.2.2.2.2.1, (Below.cell h (World.block_lt_of_cell? w5 _ HA4.out.2.2.2.2.2.2.1)).trans HA4.out.2.2.2.2.2.2.1, (Below.cell h (World.block_lt_of_cell? w5 _ HA4.out.2.2.2.2.2.2.2)).trans HA4.out.2.2.2.2.2.2.2⟩, h⟩)
              go_upto_region 23 with fail
              have X0 := hG2.drew
              refine wp_region_held_drew (S := (fun w' => (w'.cell? ⟨bb, oo + i * 8, none⟩ = some (.int .i64 ti.id) ∧ w'.cell? ⟨bb, oo + i * 8 + 1, none⟩ = some (ui) ∧ w'.cell? ⟨bb, oo + i * 8 + 2, none⟩ = some (.int .i64 ti.lv) ∧ w'.cell? ⟨bb, oo + i * 8 + 3, none⟩ = some (.string ti.cl) ∧ w'.cell? ⟨bb, oo + i * 8 + 4, none⟩ = some (.string ti.nm) ∧ w'.cell? ⟨bb, oo + i * 8 + 5, none⟩ = some (.bool ti.st) ∧ w'.cell? ⟨bb, oo + i * 8 + 6, none⟩ = some (.int .i64 ti.wt) ∧ w'.cell? ⟨bb, oo + i * 8 + 7, none⟩ = some (.int .i64 ti.ds) ∧ w'.cell? ⟨bb, oo + k * 8, none⟩ = some (.int .i64 tk.id) ∧ w'.cell? ⟨bb, oo + k * 8 + 1, none⟩ = some (uk) ∧ w'.cell? ⟨bb, oo + k * 8 + 2, none⟩ = some (.int .i64 tk.lv) ∧ w'.cell? ⟨bb, oo + k * 8 + 3, none⟩ = some (.string tk.cl) ∧ w'.cell? ⟨bb, oo + k * 8 + 4, none⟩ = some (.string tk.nm) ∧ w'.cell? ⟨bb, oo + k * 8 + 5, none⟩ = some (.bool tk.st) ∧ w'.cell? ⟨bb, oo + k * 8 + 6, none⟩ = some (.int .i64 tk.wt) ∧ w'.cell? ⟨bb, oo + k * 8 + 7, none⟩ = some (.int .i64 tk.ds) ∧ w'.cell? ⟨ob, ot + i * 8, none⟩ = some (.int .i64 si.id) ∧ w'.cell? ⟨ob, ot + i * 8 + 1, none⟩ = some (vi) ∧ w'.cell? ⟨ob, ot + i * 8 + 2, none⟩ = some (.int .i64 si.lv) ∧ w'.cell? ⟨ob, ot + i * 8 + 3, none⟩ = some (.string si.cl) ∧ w'.cell? ⟨ob, ot + i * 8 + 4, none⟩ = some (.string si.nm) ∧ w'.cell? ⟨ob, ot + i * 8 + 5, none⟩ = some (.bool si.st) ∧ w'.cell? ⟨ob, ot + i * 8 + 6, none⟩ = some (.int .i64 si.wt) ∧ w'.cell? ⟨ob, ot + i * 8 + 7, none⟩ = some (.int .i64 si.ds) ∧ w'.cell? ⟨ob, ot + k * 8, none⟩ = some (.int .i64 sk.id) ∧ w'.cell? ⟨ob, ot + k * 8 + 1, none⟩ = some (vk) ∧ w'.cell? ⟨ob, ot + k * 8 + 2, none⟩ = some (.int .i64 sk.lv) ∧ w'.cell? ⟨ob, ot + k * 8 + 3, none⟩ = some (.string sk.cl) ∧ w'.cell? ⟨ob, ot + k * 8 + 4, none⟩ = some (.string sk.nm) ∧ w'.cell? ⟨ob, ot + k * 8 + 5, none⟩ = some (.bool sk.st) ∧ w'.cell? ⟨ob, ot + k * 8 + 6, none⟩ = some (.int .i64 sk.wt) ∧ w'.cell? ⟨ob, ot + k * 8 + 7, none⟩ = some (.int .i64 sk.ds)) ∧ Below w5.heap.size w5 w')) (by kernel_rfl) (HS2.out _ X0) (fun hHeld => ?_)
              generalize wr.drew = v0 at *
              clear hG2
              refine wpAnyT_begin [0, 1, 2, 3] (by kernel_rfl) (by kernel_rfl) ?_
              refine wpAnyT_take (oi := ⟨some 88, Op.move (Operand.tmp 8), 23, _, _, none⟩) (v := .slice (some ⟨bb, oo, none⟩) on wc) rfl (fun _ _ _ h => h) (by rfl) (by assumption) (fun wS hSw => ?_) ?_
              · (try dsimp only at hSw); go_simp
              simp only [Act.put, List.setIfInBounds_toArray, List.set_cons_zero, List.set_cons_succ]
              refine wpAnyT_take (oi := ⟨some 89, Op.move (Operand.tmp 14), 3, _, _, none⟩) (v := .int .i64 i) rfl (fun _ _ _ h => h) (by rfl) (by assumption) (fun wS hSw => ?_) ?_
              · (try dsimp only at hSw); go_simp
              simp only [Act.put, List.setIfInBounds_toArray, List.set_cons_zero, List.set_cons_succ]
              refine wpAnyT_take (oi := ⟨some 90, Op.indexAddr 23 (Operand.tmp 88) (Operand.tmp 89), 0, _, _, none⟩) (v := .pointer (some ⟨bb, oo + i * 8, none⟩)) rfl (fun _ _ _ h => h) (by rfl) (by assumption) (fun wS hSw => ?_) ?_
              · (try dsimp only at hSw); go_simp
              simp only [Act.put, List.setIfInBounds_toArray, List.set_cons_zero, List.set_cons_succ]
              refine wpAnyT_take (oi := ⟨some 91, Op.load 44 (Operand.tmp 90), 44, _, _, none⟩) (v := .agg #[.int .i64 ti.id, ui, .int .i64 ti.lv, .string ti.cl, .string ti.nm, .bool ti.st, .int .i64 ti.wt, .int .i64 ti.ds]) rfl (fun _ _ _ h => h) (by rfl) (by assumption) (fun wS hSw => ?_) ?_
              · (try dsimp only at hSw); go_simp
              simp only [Act.put, List.setIfInBounds_toArray, List.set_cons_zero, List.set_cons_succ]
              refine wpAnyT_end ?_
              refine wpAnyH_listed #[true, true, true, true, false, false, false, false, false, false, false, false, false, false, false, false, false, false, false, false, false, false, false, false, false, false, false, false, false, false, false, false, false, false, false, false, false, false, false, false] (by kernel_rfl) ?_
              refine wpAnyT_begin [4, 5, 6, 7] (by kernel_rfl) (by kernel_rfl) ?_
              refine wpAnyT_take (oi := ⟨some 92, Op.move (Operand.tmp 8), 23, _, _, none⟩) (v := .slice (some ⟨bb, oo, none⟩) on wc) rfl (fun _ _ _ h => h) (by rfl) (by assumption) (fun wS hSw => ?_) ?_
              · (try dsimp only at hSw); go_simp
              simp only [Act.put, List.setIfInBounds_toArray, List.set_cons_zero, List.set_cons_succ]
              refine wpAnyT_take (oi := ⟨some 93, Op.move (Operand.tmp 15), 3, _, _, none⟩) (v := .int .i64 k) rfl (fun _ _ _ h => h) (by rfl) (by assumption) (fun wS hSw => ?_) ?_
              · (try dsimp only at hSw); go_simp
              simp only [Act.put, List.setIfInBounds_toArray, List.set_cons_zero, List.set_cons_succ]
              refine wpAnyT_take (oi := ⟨some 94, Op.indexAddr 23 (Operand.tmp 92) (Operand.tmp 93), 0, _, _, none⟩) (v := .pointer (some ⟨bb, oo + k * 8, none⟩)) rfl (fun _ _ _ h => h) (by rfl) (by assumption) (fun wS hSw => ?_) ?_
              · (try dsimp only at hSw); go_simp
              simp only [Act.put, List.setIfInBounds_toArray, List.set_cons_zero, List.set_cons_succ]
              refine wpAnyT_take (oi := ⟨some 95, Op.load 44 (Operand.tmp 94), 44, _, _, none⟩) (v := .agg #[.int .i64 tk.id, uk, .int .i64 tk.lv, .string tk.cl, .string tk.nm, .bool tk.st, .int .i64 tk.wt, .int .i64 tk.ds]) rfl (fun _ _ _ h => h) (by rfl) (by assumption) (fun wS hSw => ?_) ?_
              · (try dsimp only at hSw); go_simp
              simp only [Act.put, List.setIfInBounds_toArray, List.set_cons_zero, List.set_cons_succ]
              refine wpAnyT_end ?_
              refine wpAnyH_listed #[true, true, true, true, true, true, true, true, false, false, false, false, false, false, false, false, false, false, false, false, false, false, false, false, false, false, false, false, false, false, false, false, false, false, false, false, false, false, false, false] (by kernel_rfl) ?_
              refine wpAnyT_begin [9, 10, 11, 12] (by kernel_rfl) (by kernel_rfl) ?_
              refine wpAnyT_take (oi := ⟨some 97, Op.move (Operand.tmp 9), 23, _, _, none⟩) (v := .slice (some ⟨ob, ot, none⟩) on oc) rfl (fun _ _ _ h => h) (by rfl) (by assumption) (fun wS hSw => ?_) ?_
              · (try dsimp only at hSw); go_simp
              simp only [Act.put, List.setIfInBounds_toArray, List.set_cons_zero, List.set_cons_succ]
              refine wpAnyT_take (oi := ⟨some 98, Op.move (Operand.tmp 14), 3, _, _, none⟩) (v := .int .i64 i) rfl (fun _ _ _ h => h) (by rfl) (by assumption) (fun wS hSw => ?_) ?_
              · (try dsimp only at hSw); go_simp
              simp only [Act.put, List.setIfInBounds_toArray, List.set_cons_zero, List.set_cons_succ]
              refine wpAnyT_take (oi := ⟨some 99, Op.indexAddr 23 (Operand.tmp 97) (Operand.tmp 98), 0, _, _, none⟩) (v := .pointer (some ⟨ob, ot + i * 8, none⟩)) rfl (fun _ _ _ h => h) (by rfl) (by assumption) (fun wS hSw => ?_) ?_
              · (try dsimp only at hSw); go_simp
              simp only [Act.put, List.setIfInBounds_toArray, List.set_cons_zero, List.set_cons_succ]
              refine wpAnyT_take (oi := ⟨some 100, Op.load 44 (Operand.tmp 99), 44, _, _, none⟩) (v := .agg #[.int .i64 si.id, vi, .int .i64 si.lv, .string si.cl, .string si.nm, .bool si.st, .int .i64 si.wt, .int .i64 si.ds]) rfl (fun _ _ _ h => h) (by rfl) (by assumption) (fun wS hSw => ?_) ?_
              · (try dsimp only at hSw); go_simp
              simp only [Act.put, List.setIfInBounds_toArray, List.set_cons_zero, List.set_cons_succ]
              refine wpAnyT_end ?_
              refine wpAnyH_listed #[true, true, true, true, true, true, true, true, false, true, true, true, true, false, false, false, false, false, false, false, false, false, false, false, false, false, false, false, false, false, false, false, false, false, false, false, false, false, false, false] (by kernel_rfl) ?_
              refine wpAnyT_begin [13, 14, 15, 16] (by kernel_rfl) (by kernel_rfl) ?_
              refine wpAnyT_take (oi := ⟨some 101, Op.move (Operand.tmp 9), 23, _, _, none⟩) (v := .slice (some ⟨ob, ot, none⟩) on oc) rfl (fun _ _ _ h => h) (by rfl) (by assumption) (fun wS hSw => ?_) ?_
              · (try dsimp only at hSw); go_simp
              simp only [Act.put, List.setIfInBounds_toArray, List.set_cons_zero, List.set_cons_succ]
              refine wpAnyT_take (oi := ⟨some 102, Op.move (Operand.tmp 15), 3, _, _, none⟩) (v := .int .i64 k) rfl (fun _ _ _ h => h) (by rfl) (by assumption) (fun wS hSw => ?_) ?_
              · (try dsimp only at hSw); go_simp
              simp only [Act.put, List.setIfInBounds_toArray, List.set_cons_zero, List.set_cons_succ]
              refine wpAnyT_take (oi := ⟨some 103, Op.indexAddr 23 (Operand.tmp 101) (Operand.tmp 102), 0, _, _, none⟩) (v := .pointer (some ⟨ob, ot + k * 8, none⟩)) rfl (fun _ _ _ h => h) (by rfl) (by assumption) (fun wS hSw => ?_) ?_
              · (try dsimp only at hSw); go_simp
              simp only [Act.put, List.setIfInBounds_toArray, List.set_cons_zero, List.set_cons_succ]
              refine wpAnyT_take (oi := ⟨some 104, Op.load 44 (Operand.tmp 103), 44, _, _, none⟩) (v := .agg #[.int .i64 sk.id, vk, .int .i64 sk.lv, .string sk.cl, .string sk.nm, .bool sk.st, .int .i64 sk.wt, .int .i64 sk.ds]) rfl (fun _ _ _ h => h) (by rfl) (by assumption) (fun wS hSw => ?_) ?_
              · (try dsimp only at hSw); go_simp
              simp only [Act.put, List.setIfInBounds_toArray, List.set_cons_zero, List.set_cons_succ]
              refine wpAnyT_end ?_
              refine wpAnyH_listed #[true, true, true, true, true, true, true, true, false, true, true, true, true, true, true, true, true, false, false, false, false, false, false, false, false, false, false, false, false, false, false, false, false, false, false, false, false, false, false, false] (by kernel_rfl) ?_
              refine wpAnyH_ready (rs := [8]) (by kernel_rfl) (by simp) ?_
              refine AllReadyH.cons (o := ⟨some 96, Op.call { callee := Callee.value (Operand.func 20), args := #[Operand.tmp 91, Operand.tmp 95], argTypes := #[44, 44] }, 4, _, _, none⟩) rfl (fun K hK => ?_) AllReadyH.nil
              go_simp
              go_at_call 20
              refine (joined_is ti tk ui uk jb HJ1.out _ (RI.out.later X0) (RK.out.later X0)).mono ?_
              rintro e v1 ⟨rfl, B2⟩
              have X1 := X0.trans (B2.mono X0.size)
              go_wp2_with fail
              clear hHeld
              refine hK.out _ _ (HS2.out _ X1) (fun hHeld => ?_)
              clear hK K
              try simp only [List.setIfInBounds_toArray, List.set_cons_zero, List.set_cons_succ]
              refine wpAnyH_listed #[true, true, true, true, true, true, true, true, true, true, true, true, true, true, true, true, true, false, false, false, false, false, false, false, false, false, false, false, false, false, false, false, false, false, false, false, false, false, false, false] (by kernel_rfl) ?_
              clear X0 B2
              refine wpAnyH_ready (rs := [17]) (by kernel_rfl) (by simp) ?_
              refine AllReadyH.cons (o := ⟨some 105, Op.call { callee := Callee.value (Operand.func 20), args := #[Operand.tmp 100, Operand.tmp 104], argTypes := #[44, 44] }, 4, _, _, none⟩) rfl (fun K hK => ?_) AllReadyH.nil
              go_simp
              go_at_call 20
              refine (joined_is si sk vi vk jb HJ2.out _ (QI.out.later X1) (QK.out.later X1)).mono ?_
              rintro e v2 ⟨rfl, B2⟩
              have X2 := X1.trans (B2.mono X1.size)
              go_wp2_with fail
              clear hHeld
              refine hK.out _ _ (HS2.out _ X2) (fun hHeld => ?_)
              clear hK K
              try simp only [List.setIfInBounds_toArray, List.set_cons_zero, List.set_cons_succ]
              refine wpAnyH_listed #[true, true, true, true, true, true, true, true, true, true, true, true, true, true, true, true, true, true, false, false, false, false, false, false, false, false, false, false, false, false, false, false, false, false, false, false, false, false, false, false] (by kernel_rfl) ?_
              clear X1 B2
              refine wpAnyT_begin [18, 19] (by kernel_rfl) (by kernel_rfl) ?_
              refine wpAnyT_take (oi := ⟨some 106, Op.binOp BinOp.neq 4 (Operand.tmp 96) (Operand.tmp 105) 4, 4, _, _, none⟩) (v := .bool false) rfl (fun _ _ _ h => h) (by rfl) (by assumption) (fun wS hSw => ?_) ?_
              · (try dsimp only at hSw); go_simp
              simp only [Act.put, List.setIfInBounds_toArray, List.set_cons_zero, List.set_cons_succ]
              refine wpAnyT_take (oi := ⟨some 107, Op.move (Operand.tmp 106), 4, _, _, none⟩) (v := .bool false) rfl (fun _ _ _ h => h) (by rfl) (by assumption) (fun wS hSw => ?_) ?_
              · (try dsimp only at hSw); go_simp
              simp only [Act.put, List.setIfInBounds_toArray, List.set_cons_zero, List.set_cons_succ]
              refine wpAnyT_end ?_
              refine wpAnyH_listed #[true, true, true, true, true, true, true, true, true, true, true, true, true, true, true, true, true, true, true, true, false, false, false, false, false, false, false, false, false, false, false, false, false, false, false, false, false, false, false, false] (by kernel_rfl) ?_
              refine wpAnyT_begin [20, 21, 22, 23] (by kernel_rfl) (by kernel_rfl) ?_
              refine wpAnyT_take (oi := ⟨some 108, Op.move (Operand.tmp 8), 23, _, _, some (19, false)⟩) (v := .slice (some ⟨bb, oo, none⟩) on wc) rfl (fun _ _ _ h => h) (by rfl) (by assumption) (fun wS hSw => ?_) ?_
              · (try dsimp only at hSw); go_simp
              simp only [Act.put, List.setIfInBounds_toArray, List.set_cons_zero, List.set_cons_succ]
              refine wpAnyT_take (oi := ⟨some 109, Op.move (Operand.tmp 14), 3, _, _, some (19, false)⟩) (v := .int .i64 i) rfl (fun _ _ _ h => h) (by rfl) (by assumption) (fun wS hSw => ?_) ?_
              · (try dsimp only at hSw); go_simp
              simp only [Act.put, List.setIfInBounds_toArray, List.set_cons_zero, List.set_cons_succ]
              refine wpAnyT_take (oi := ⟨some 110, Op.indexAddr 23 (Operand.tmp 108) (Operand.tmp 109), 0, _, _, some (19, false)⟩) (v := .pointer (some ⟨bb, oo + i * 8, none⟩)) rfl (fun _ _ _ h => h) (by rfl) (by assumption) (fun wS hSw => ?_) ?_
              · (try dsimp only at hSw); go_simp
              simp only [Act.put, List.setIfInBounds_toArray, List.set_cons_zero, List.set_cons_succ]
              refine wpAnyT_take (oi := ⟨some 111, Op.load 44 (Operand.tmp 110), 44, _, _, some (19, false)⟩) (v := .agg #[.int .i64 ti.id, ui, .int .i64 ti.lv, .string ti.cl, .string ti.nm, .bool ti.st, .int .i64 ti.wt, .int .i64 ti.ds]) rfl (fun _ _ _ h => h) (by rfl) (by assumption) (fun wS hSw => ?_) ?_
              · (try dsimp only at hSw); go_simp
              simp only [Act.put, List.setIfInBounds_toArray, List.set_cons_zero, List.set_cons_succ]
              refine wpAnyT_end ?_
              refine wpAnyH_listed #[true, true, true, true, true, true, true, true, true, true, true, true, true, true, true, true, true, true, true, true, true, true, true, true, false, false, false, false, false, false, false, false, false, false, false, false, false, false, false, false] (by kernel_rfl) ?_
              refine wpAnyT_begin [24, 25, 26, 27] (by kernel_rfl) (by kernel_rfl) ?_
              refine wpAnyT_take (oi := ⟨some 112, Op.move (Operand.tmp 8), 23, _, _, some (19, false)⟩) (v := .slice (some ⟨bb, oo, none⟩) on wc) rfl (fun _ _ _ h => h) (by rfl) (by assumption) (fun wS hSw => ?_) ?_
              · (try dsimp only at hSw); go_simp
              simp only [Act.put, List.setIfInBounds_toArray, List.set_cons_zero, List.set_cons_succ]
              refine wpAnyT_take (oi := ⟨some 113, Op.move (Operand.tmp 15), 3, _, _, some (19, false)⟩) (v := .int .i64 k) rfl (fun _ _ _ h => h) (by rfl) (by assumption) (fun wS hSw => ?_) ?_
              · (try dsimp only at hSw); go_simp
              simp only [Act.put, List.setIfInBounds_toArray, List.set_cons_zero, List.set_cons_succ]
              refine wpAnyT_take (oi := ⟨some 114, Op.indexAddr 23 (Operand.tmp 112) (Operand.tmp 113), 0, _, _, some (19, false)⟩) (v := .pointer (some ⟨bb, oo + k * 8, none⟩)) rfl (fun _ _ _ h => h) (by rfl) (by assumption) (fun wS hSw => ?_) ?_
              · (try dsimp only at hSw); go_simp
              simp only [Act.put, List.setIfInBounds_toArray, List.set_cons_zero, List.set_cons_succ]
              refine wpAnyT_take (oi := ⟨some 115, Op.load 44 (Operand.tmp 114), 44, _, _, some (19, false)⟩) (v := .agg #[.int .i64 tk.id, uk, .int .i64 tk.lv, .string tk.cl, .string tk.nm, .bool tk.st, .int .i64 tk.wt, .int .i64 tk.ds]) rfl (fun _ _ _ h => h) (by rfl) (by assumption) (fun wS hSw => ?_) ?_
              · (try dsimp only at hSw); go_simp
              simp only [Act.put, List.setIfInBounds_toArray, List.set_cons_zero, List.set_cons_succ]
              refine wpAnyT_end ?_
              refine wpAnyH_listed #[true, true, true, true, true, true, true, true, true, true, true, true, true, true, true, true, true, true, true, true, true, true, true, true, true, true, true, true, false, false, false, false, false, false, false, false, false, false, false, false] (by kernel_rfl) ?_
              refine wpAnyT_begin [29, 30, 31, 32] (by kernel_rfl) (by kernel_rfl) ?_
              refine wpAnyT_take (oi := ⟨some 117, Op.move (Operand.tmp 9), 23, _, _, some (19, false)⟩) (v := .slice (some ⟨ob, ot, none⟩) on oc) rfl (fun _ _ _ h => h) (by rfl) (by assumption) (fun wS hSw => ?_) ?_
              · (try dsimp only at hSw); go_simp
              simp only [Act.put, List.setIfInBounds_toArray, List.set_cons_zero, List.set_cons_succ]
              refine wpAnyT_take (oi := ⟨some 118, Op.move (Operand.tmp 15), 3, _, _, some (19, false)⟩) (v := .int .i64 k) rfl (fun _ _ _ h => h) (by rfl) (by assumption) (fun wS hSw => ?_) ?_
              · (try dsimp only at hSw); go_simp
              simp only [Act.put, List.setIfInBounds_toArray, List.set_cons_zero, List.set_cons_succ]
              refine wpAnyT_take (oi := ⟨some 119, Op.indexAddr 23 (Operand.tmp 117) (Operand.tmp 118), 0, _, _, some (19, false)⟩) (v := .pointer (some ⟨ob, ot + k * 8, none⟩)) rfl (fun _ _ _ h => h) (by rfl) (by assumption) (fun wS hSw => ?_) ?_
              · (try dsimp only at hSw); go_simp
              simp only [Act.put, List.setIfInBounds_toArray, List.set_cons_zero, List.set_cons_succ]
              refine wpAnyT_take (oi := ⟨some 120, Op.load 44 (Operand.tmp 119), 44, _, _, some (19, false)⟩) (v := .agg #[.int .i64 sk.id, vk, .int .i64 sk.lv, .string sk.cl, .string sk.nm, .bool sk.st, .int .i64 sk.wt, .int .i64 sk.ds]) rfl (fun _ _ _ h => h) (by rfl) (by assumption) (fun wS hSw => ?_) ?_
              · (try dsimp only at hSw); go_simp
              simp only [Act.put, List.setIfInBounds_toArray, List.set_cons_zero, List.set_cons_succ]
              refine wpAnyT_end ?_
              refine wpAnyH_listed #[true, true, true, true, true, true, true, true, true, true, true, true, true, true, true, true, true, true, true, true, true, true, true, true, true, true, true, true, false, true, true, true, true, false, false, false, false, false, false, false] (by kernel_rfl) ?_
              refine wpAnyT_begin [33, 34, 35, 36] (by kernel_rfl) (by kernel_rfl) ?_
              refine wpAnyT_take (oi := ⟨some 121, Op.move (Operand.tmp 9), 23, _, _, some (19, false)⟩) (v := .slice (some ⟨ob, ot, none⟩) on oc) rfl (fun _ _ _ h => h) (by rfl) (by assumption) (fun wS hSw => ?_) ?_
              · (try dsimp only at hSw); go_simp
              simp only [Act.put, List.setIfInBounds_toArray, List.set_cons_zero, List.set_cons_succ]
              refine wpAnyT_take (oi := ⟨some 122, Op.move (Operand.tmp 14), 3, _, _, some (19, false)⟩) (v := .int .i64 i) rfl (fun _ _ _ h => h) (by rfl) (by assumption) (fun wS hSw => ?_) ?_
              · (try dsimp only at hSw); go_simp
              simp only [Act.put, List.setIfInBounds_toArray, List.set_cons_zero, List.set_cons_succ]
              refine wpAnyT_take (oi := ⟨some 123, Op.indexAddr 23 (Operand.tmp 121) (Operand.tmp 122), 0, _, _, some (19, false)⟩) (v := .pointer (some ⟨ob, ot + i * 8, none⟩)) rfl (fun _ _ _ h => h) (by rfl) (by assumption) (fun wS hSw => ?_) ?_
              · (try dsimp only at hSw); go_simp
              simp only [Act.put, List.setIfInBounds_toArray, List.set_cons_zero, List.set_cons_succ]
              refine wpAnyT_take (oi := ⟨some 124, Op.load 44 (Operand.tmp 123), 44, _, _, some (19, false)⟩) (v := .agg #[.int .i64 si.id, vi, .int .i64 si.lv, .string si.cl, .string si.nm, .bool si.st, .int .i64 si.wt, .int .i64 si.ds]) rfl (fun _ _ _ h => h) (by rfl) (by assumption) (fun wS hSw => ?_) ?_
              · (try dsimp only at hSw); go_simp
              simp only [Act.put, List.setIfInBounds_toArray, List.set_cons_zero, List.set_cons_succ]
              refine wpAnyT_end ?_
              refine wpAnyH_listed #[true, true, true, true, true, true, true, true, true, true, true, true, true, true, true, true, true, true, true, true, true, true, true, true, true, true, true, true, false, true, true, true, true, true, true, true, true, false, false, false] (by kernel_rfl) ?_
              refine wpAnyH_ready (rs := [28]) (by kernel_rfl) (by simp) ?_
              refine AllReadyH.cons (o := ⟨some 116, Op.call { callee := Callee.value (Operand.func 22), args := #[Operand.tmp 111, Operand.tmp 115], argTypes := #[44, 44] }, 4, _, _, some (19, false)⟩) rfl (fun K hK => ?_) AllReadyH.nil
              go_simp
              go_at_call 22
              refine (crossw_is ti tk ui uk cb HC1.out _ (RI.out.later X2) (RK.out.later X2)).mono ?_
              rintro e v3 ⟨rfl, B2⟩
              have X3 := X2.trans (B2.mono X2.size)
              go_wp2_with fail
              clear hHeld
              refine hK.out _ _ (HS2.out _ X3) (fun hHeld => ?_)
              clear hK K
              try simp only [List.setIfInBounds_toArray, List.set_cons_zero, List.set_cons_succ]
              refine wpAnyH_listed #[true, true, true, true, true, true, true, true, true, true, true, true, true, true, true, true, true, true, true, true, true, true, true, true, true, true, true, true, true, true, true, true, true, true, true, true, true, false, false, false] (by kernel_rfl) ?_
              clear X2 B2
              refine wpAnyH_ready (rs := [37]) (by kernel_rfl) (by simp) ?_
              refine AllReadyH.cons (o := ⟨some 125, Op.call { callee := Callee.value (Operand.func 22), args := #[Operand.tmp 120, Operand.tmp 124], argTypes := #[44, 44] }, 4, _, _, some (19, false)⟩) rfl (fun K hK => ?_) AllReadyH.nil
              go_simp
              go_at_call 22
              refine (crossw_is sk si vk vi cb HC2.out _ (QK.out.later X3) (QI.out.later X3)).mono ?_
              rintro e v4 ⟨rfl, B2⟩
              have X4 := X3.trans (B2.mono X3.size)
              go_wp2_with fail
              clear hHeld
              refine hK.out _ _ (HS2.out _ X4) (fun hHeld => ?_)
              clear hK K
              try simp only [List.setIfInBounds_toArray, List.set_cons_zero, List.set_cons_succ]
              refine wpAnyH_listed #[true, true, true, true, true, true, true, true, true, true, true, true, true, true, true, true, true, true, true, true, true, true, true, true, true, true, true, true, true, true, true, true, true, true, true, true, true, true, false, false] (by kernel_rfl) ?_
              clear X3 B2
              refine wpAnyT_begin [38, 39] (by kernel_rfl) (by kernel_rfl) ?_
              refine wpAnyT_take (oi := ⟨some 126, Op.binOp BinOp.neq 4 (Operand.tmp 116) (Operand.tmp 125) 4, 4, _, _, some (19, false)⟩) (v := .bool false) rfl (fun _ _ _ h => h) (by rfl) (by assumption) (fun wS hSw => ?_) ?_
              · (try dsimp only at hSw); go_simp
              simp only [Act.put, List.setIfInBounds_toArray, List.set_cons_zero, List.set_cons_succ]
              refine wpAnyT_take (oi := ⟨some 127, Op.pick (Operand.tmp 107) (Operand.const (Value.bool true)) (Operand.tmp 126), 4, _, _, none⟩) (v := .bool false) rfl (fun _ _ _ h => h) (by rfl) (by assumption) (fun wS hSw => ?_) ?_
              · (try dsimp only at hSw); go_simp
              simp only [Act.put, List.setIfInBounds_toArray, List.set_cons_zero, List.set_cons_succ]
              refine wpAnyT_end ?_
              refine wpAnyH_listed #[true, true, true, true, true, true, true, true, true, true, true, true, true, true, true, true, true, true, true, true, true, true, true, true, true, true, true, true, true, true, true, true, true, true, true, true, true, true, true, true] (by kernel_rfl) ?_
              refine wpAnyH_done (by kernel_rfl) ?_ _
              clear hHeld HS2
              go_wp2_with fail
              go_roundw
              case rel => exact ⟨k + 1, by omega, by go_num, X4⟩
              case measure => simp [RowKit.intOf]; omega
            · obtain rfl : k = on := by omega
              have iw : IntKind.i64.wrap ((i : Int) + 1) = (i : Int) + 1 := by rw [IntKind.wrap_i64]; omega
              go_wp2_with fail
              go_roundw
              case rel => exact ⟨i + 1, by omega, by go_num, hG2⟩
              case measure => simp [RowKit.intOf]; omega
        · obtain rfl : i = on := by omega
          have b4 : ¬ (i : Int) < i := by omega
          have RW6 := HW5.out.later hG
          have RO6 := HO5.out.later hG
          have BZ := HB5.out.trans (hG.mono HB5.out.size)
          obtain ⟨cn, hcn⟩ : ∃ c, checkN ws = c := ⟨_, rfl⟩
          have h20 : ∀ p ∈ prs ws bs, In20 p.1.ln := by
            intro p hp
            have : p.1 ∈ ws := by rw [← prs_fst ws bs]; exact List.mem_map_of_mem hp
            exact (HM.out.at' p.1 this).2.2.2
          have hcn2 : checkN (tnWs q0 q1 q2 (prs ws bs)) = cn := by rw [checkN_tn h20, prs_fst]; exact hcn
          have hgr : grpW (tnWs q0 q1 q2 (prs ws bs)) = grpW ws := by rw [grpW_tn h20, prs_fst]
          have hwk : ∀ t ∈ tnWs q0 q1 q2 (prs ws bs), WK t := by
            intro t ht
            unfold tnWs at ht
            obtain ⟨p, hp, rfl⟩ := List.mem_map.1 ht
            have : p.1 ∈ ws := by rw [← prs_fst ws bs]; exact List.mem_map_of_mem hp
            exact tn_wk (h20 p hp) (HM.out.at' p.1 this).1 q0 q1 q2 p.2
          have HCN := Lib.hid hcn
          have HCN2 := Lib.hid hcn2
          have HGR := Lib.hid hgr
          have HWK := Lib.hid hwk
          have HON := Lib.hid hon
          clear hG hcn hcn2 hgr hwk h20 hon
          go_wp2_with fail
          refine (checkn_is _ _ cn HCN2.out _ RO6).mono ?_
          rintro e v1 ⟨rfl, B1⟩
          replace RW6 := RW6.later B1
          replace RO6 := RO6.later B1
          replace BZ := BZ.trans (B1.mono BZ.size)
          clear B1
          go_wp2_with fail
          refine (checkn_is _ _ cn HCN.out _ RW6).mono ?_
          rintro e v2 ⟨rfl, B1⟩
          replace RW6 := RW6.later B1
          replace RO6 := RO6.later B1
          replace BZ := BZ.trans (B1.mono BZ.size)
          clear B1
          go_wp2_with fail
          refine (groups_any HM.out.wk _ _ RW6 (by have := HM.out.len; omega)).mono ?_
          rintro e v3 ⟨g1, rfl, G1, B1⟩
          have RG1 := G1.row
          replace RO6 := RO6.later B1
          replace BZ := BZ.trans (B1.mono BZ.size)
          clear B1 G1 RW6
          go_wp2_with fail
          refine (groups_any HWK.out _ _ RO6 (by rw [HON.out]; omega)).mono ?_
          rintro e v4 ⟨g2, rfl, G2, B1⟩
          have RG2 := G2.row
          rw [HGR.out] at RG2
          replace RG1 := RG1.later B1
          replace BZ := BZ.trans (B1.mono BZ.size)
          clear B1 G2 RO6
          go_wp2_with fail
          refine (samegroups_any _ _ _ _ RG1 RG2).mono ?_
          rintro e v5 ⟨rfl, B1⟩
          replace BZ := BZ.trans (B1.mono BZ.size)
          clear B1 RG1 RG2
          go_wp2_with fail
          go_ret
          exact ⟨rfl, BZ⟩

end Go.Proofs.YtoaldbjcpfkcjaaGreat
