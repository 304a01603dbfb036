/- Spots that are moved, and their sides. -/
import Derived.Test.YtoehojopoajcaaaLaw5
import Derived.Test.YtoehojopoajcaaaHeld
namespace Go.Proofs.Ytoehojopoajcaaa
open Go.RowKit Go.Lib

set_option linter.unusedSimpArgs false in
set_option maxRecDepth 100000 in
set_option maxHeartbeats 64000000 in
theorem spots_any (m0 m1 m2 m3 m4 m5 m6 m7 x y n : Int) (hn : 0 ≤ n ∧ n ≤ 255) (w : World) :
    Calls Try.prog 8 #[.agg #[.int .i64 m0, .int .i64 m1, .int .i64 m2, .int .i64 m3, .int .i64 m4, .int .i64 m5, .int .i64 m6, .int .i64 m7], .agg #[.int .i64 x, .int .i64 y], .int .u8 n] w fun e w' => e = .returned (.bool true) ∧ Below w.heap.size w w' := by
  have C0 := has2 (w := w) [.int .i64 m0, .int .i64 m1, .int .i64 m2, .int .i64 m3, .int .i64 m4, .int .i64 m5, .int .i64 m6, .int .i64 m7] [.int .i64 x, .int .i64 y] 52 28
  obtain ⟨Ea, hEa⟩ : ∃ v, m2 % 32 = v := ⟨_, rfl⟩
  have wEa : bits .and .i64 m2 31 = Ea := (and31 m2).trans hEa
  have cEa := Geo.cut_spt m0 m1 m2
  rw [hEa] at cEa
  obtain ⟨A0, hA0⟩ : ∃ v, cutX m0 Ea = v := ⟨_, rfl⟩
  obtain ⟨A1, hA1⟩ : ∃ v, cutX m1 Ea = v := ⟨_, rfl⟩
  obtain ⟨A2, hA2⟩ : ∃ v, cutD Ea = v := ⟨_, rfl⟩
  rw [hA0, hA1, hA2] at cEa
  clear hEa
  obtain ⟨Eb, hEb⟩ : ∃ v, m5 % 32 = v := ⟨_, rfl⟩
  have wEb : bits .and .i64 m5 31 = Eb := (and31 m5).trans hEb
  have cEb := Geo.cut_spt m3 m4 m5
  rw [hEb] at cEb
  obtain ⟨B0, hB0⟩ : ∃ v, cutX m3 Eb = v := ⟨_, rfl⟩
  obtain ⟨B1, hB1⟩ : ∃ v, cutX m4 Eb = v := ⟨_, rfl⟩
  obtain ⟨B2, hB2⟩ : ∃ v, cutD Eb = v := ⟨_, rfl⟩
  rw [hB0, hB1, hB2] at cEb
  clear hEb
  obtain ⟨px, hpx⟩ : ∃ v, x.tmod 1000 = v := ⟨_, rfl⟩
  obtain ⟨py, hpy⟩ : ∃ v, y.tmod 1000 = v := ⟨_, rfl⟩
  have bpx := tmod_bd x 1000 (by omega)
  have bpy := tmod_bd y 1000 (by omega)
  rw [hpx] at bpx
  rw [hpy] at bpy
  obtain ⟨D, hD⟩ : ∃ D, m7 % 64 + 1 = D := ⟨_, rfl⟩
  have bD : 1 ≤ D ∧ D ≤ 64 := by omega
  have wD : IntKind.i64.wrap (m7 % 64 + 1) = D := hD ▸ IntWalk.i64_in _ (by omega)
  obtain ⟨F, hF⟩ : ∃ F, m6 % (D + 1) = F := ⟨_, rfl⟩
  have bF : 0 ≤ F ∧ F ≤ D := by
    have h1 := Int.emod_nonneg m6 (show D + 1 ≠ 0 by omega)
    have h2 := Int.emod_lt_of_pos m6 (show 0 < D + 1 by omega)
    omega
  have wE : IntKind.i64.wrap (D + 1) = D + 1 := IntWalk.i64_in _ (by omega)
  obtain ⟨s0, s1, s2, G1, S1⟩ := Geo.moved cEa cEb bD bF
  obtain ⟨f0, f1, f2, G2, S2⟩ := Geo.moved cEa cEb bD (show 0 ≤ (0 : Int) ∧ (0 : Int) ≤ D by omega)
  obtain ⟨t0, t1, t2, G3, S3⟩ := Geo.moved cEa cEb bD (show 0 ≤ D ∧ D ≤ D by omega)
  obtain ⟨K, hK⟩ : ∃ K, n.tmod 30 = K := ⟨_, rfl⟩
  have bK : 0 ≤ K ∧ K ≤ 29 := by rw [Int.tmod_eq_emod_of_nonneg hn.1] at hK; omega
  have wn : IntKind.i64.wrap n = n := IntWalk.i64_in _ (by omega)
  obtain ⟨q, hq⟩ : ∃ q, K + 1 = q := ⟨_, rfl⟩
  have bq : 1 ≤ q ∧ q ≤ 30 := by omega
  have wK : IntKind.i64.wrap (K + 1) = q := hq ▸ IntWalk.i64_in _ (by omega)
  obtain ⟨⟨p1, p2, p3⟩, ⟨p4, p5, p6, p7⟩, p8, p9, p10, p11⟩ := spots_prep cEa cEb bq S2 S3
  obtain ⟨W0, hW0⟩ : ∃ v, q * A0 = v := ⟨_, rfl⟩
  obtain ⟨W1, hW1⟩ : ∃ v, q * A1 = v := ⟨_, rfl⟩
  obtain ⟨W2, hW2⟩ : ∃ v, q * A2 = v := ⟨_, rfl⟩
  obtain ⟨e1, he1⟩ : ∃ v, A0 * f2 = v := ⟨_, rfl⟩
  obtain ⟨e2, he2⟩ : ∃ v, A1 * f2 = v := ⟨_, rfl⟩
  obtain ⟨e3, he3⟩ : ∃ v, B0 * t2 = v := ⟨_, rfl⟩
  obtain ⟨e4, he4⟩ : ∃ v, B1 * t2 = v := ⟨_, rfl⟩
  have z1 := p1.trans hW0
  have z2 := p2.trans hW1
  have z3 := p3.trans hW2
  have z4 := p4.trans he1
  have z5 := p5.trans he1
  have z6 := p6.trans he2
  have z7 := p7.trans he2
  have z8 := p8.trans he3
  have z9 := p9.trans he3
  have z10 := p10.trans he4
  have z11 := p11.trans he4
  obtain ⟨u0, hu0⟩ : ∃ v, sm px = v := ⟨_, rfl⟩
  obtain ⟨u1, hu1⟩ : ∃ v, sm py = v := ⟨_, rfl⟩
  have bu0 := sm_bd px
  have bu1 := sm_bd py
  rw [hu0] at bu0
  rw [hu1] at bu1
  obtain ⟨v0, hv0⟩ : ∃ v, A0.tmod 1000 = v := ⟨_, rfl⟩
  obtain ⟨v1, hv1⟩ : ∃ v, B1.tmod 1000 = v := ⟨_, rfl⟩
  have bv0 := tmod_bd A0 1000 (by omega)
  have bv1 := tmod_bd B1 1000 (by omega)
  rw [hv0] at bv0
  rw [hv1] at bv1
  have iq : sbd px py 1 = true := by rw [sbd_iff]; unfold SB; omega
  have g1 := Geo.side_plain (u0 := u0) (u1 := u1) (v0 := v0) (v1 := v1) (p0 := px) (p1 := py) (by omega) (by omega) (by omega)
  obtain ⟨sp, hsp⟩ : ∃ s, sideOf u0 u1 v0 v1 px py = s := ⟨_, rfl⟩
  rw [hsp] at g1
  have g2 := S1.side cEa cEb
  have g3 := Geo.side_scale cEa cEb.sb iq bq
  rw [hW0, hW1, hW2] at g3
  have g4 := Geo.side_back cEa cEb iq
  obtain ⟨sq, hsq⟩ : ∃ s, sideS A0 A1 A2 B0 B1 B2 px py 1 = s := ⟨_, rfl⟩
  have bsq : -1 ≤ sq ∧ sq ≤ 1 := by
    rw [← hsq, ← sideS_yes _ _ _ _ _ _ _ _ _ cEa.sb cEb.sb iq]
    rcases Int.lt_trichotomy ((B0 * A2 - A0 * B2) * (py * A2 - A1 * 1) - (B1 * A2 - A1 * B2) * (px * A2 - A0 * 1)) 0 with h | h | h
    · rw [Int.sign_eq_neg_one_of_neg h]; omega
    · rw [h]; decide
    · rw [Int.sign_eq_one_of_pos h]; omega
  rw [hsq] at g3 g4
  obtain ⟨sn, hsn⟩ : ∃ s, -sq = s := ⟨_, rfl⟩
  have wsn : IntKind.i64.wrap (-sq) = sn := hsn ▸ IntWalk.i64_in _ (by omega)
  rw [hsn] at g4
  obtain ⟨gg, hgg⟩ : ∃ g, gcdOf s0 s1 = g := ⟨_, rfl⟩
  have glow := S1.low
  rw [hgg] at glow
  have bs2 := S1.b2.1
  have H_hA0 := Lib.hid hA0
  have H_hA1 := Lib.hid hA1
  have H_hA2 := Lib.hid hA2
  have H_hB0 := Lib.hid hB0
  have H_hB1 := Lib.hid hB1
  have H_hB2 := Lib.hid hB2
  have H_hF := Lib.hid hF
  have H_hsp := Lib.hid hsp
  have H_hsq := Lib.hid hsq
  have H_hgg := Lib.hid hgg
  have H_glow := Lib.hid glow
  have H_g1 := Lib.hid g1
  have H_g2 := Lib.hid g2
  have H_g3 := Lib.hid g3
  have H_g4 := Lib.hid g4
  have H_hu0 := Lib.hid hu0
  have H_hu1 := Lib.hid hu1
  have HS1 := Lib.hid S1
  have HS2 := Lib.hid S2
  have HS3 := Lib.hid S3
  have Hbg := Lib.hid (show (-9223372036854775808 ≤ gg ∧ gg ≤ 9223372036854775807) from by have h := Geo.gcdOf_small S1.b0 S1.b1; have := Geo.gcd_le S1.b0 S1.b1; rw [hgg] at h; omega)
  clear hA0 hA1 hA2 hB0 hB1 hB2 hF hsp hsq hgg glow g1 g2 g3 g4 hu0 hu1 S1 S2 S3 p1 p2 p3 p4 p5 p6 p7 p8 p9 p10 p11 hW0 hW1 hW2 he1 he2 he3 he4 bpx bpy bu0 bu1 bv0 bv1 bsq hsn iq cEa cEb bF hD hq bq
  go_enter Try.func8, Try.ntmps8
  go_wp2_with fail
  change Has w _ ((w.alloc (.cells #[.int .i64 m0, .int .i64 m1, .int .i64 m2, .int .i64 m3, .int .i64 m4, .int .i64 m5, .int .i64 m6, .int .i64 m7] 52)).alloc (.cells #[.int .i64 x, .int .i64 y] 28)) at C0
  generalize (w.alloc (.cells #[.int .i64 m0, .int .i64 m1, .int .i64 m2, .int .i64 m3, .int .i64 m4, .int .i64 m5, .int .i64 m6, .int .i64 m7] 52)).alloc (.cells #[.int .i64 x, .int .i64 y] 28) = w0 at *
  refine (Has.call C0 (sane _)).mono ?_
  rintro e w1 ⟨rfl, C1⟩
  generalize hM : w.heap.size = M at *
  generalize hN : M + 1 = N at *
  clear hM hN C0
  go_upto_region 2 with fail
  have X0 := C1.drew
  have ms1 := Lib.hid (show ∀ w', Has w [(M, [.int .i64 m0, .int .i64 m1, .int .i64 m2, .int .i64 m3, .int .i64 m4, .int .i64 m5, .int .i64 m6, .int .i64 m7]), (N, [.int .i64 x, .int .i64 y])] w' → (w'.cell? ⟨M, 0, none⟩ = some (.int .i64 m0) ∧ w'.cell? ⟨M, 1, none⟩ = some (.int .i64 m1) ∧ w'.cell? ⟨M, 2, none⟩ = some (.int .i64 m2) ∧ w'.cell? ⟨M, 3, none⟩ = some (.int .i64 m3) ∧ w'.cell? ⟨M, 4, none⟩ = some (.int .i64 m4) ∧ w'.cell? ⟨M, 5, none⟩ = some (.int .i64 m5) ∧ w'.cell? ⟨M, 6, none⟩ = some (.int .i64 m6) ∧ w'.cell? ⟨M, 7, none⟩ = some (.int .i64 m7) ∧ w'.cell? ⟨N, 0, none⟩ = some (.int .i64 x) ∧ w'.cell? ⟨N, 1, none⟩ = some (.int .i64 y)) ∧ Has w [(M, [.int .i64 m0, .int .i64 m1, .int .i64 m2, .int .i64 m3, .int .i64 m4, .int .i64 m5, .int .i64 m6, .int .i64 m7]), (N, [.int .i64 x, .int .i64 y])] w' from fun w' h => ⟨⟨h.fact (.head _) (i := 0) rfl, h.fact (.head _) (i := 1) rfl, h.fact (.head _) (i := 2) rfl, h.fact (.head _) (i := 3) rfl, h.fact (.head _) (i := 4) rfl, h.fact (.head _) (i := 5) rfl, h.fact (.head _) (i := 6) rfl, h.fact (.head _) (i := 7) rfl, h.tail.fact (.head _) (i := 0) rfl, h.tail.fact (.head _) (i := 1) rfl⟩, h⟩)
  refine wp_region_held_drew (S := (fun w' => (w'.cell? ⟨M, 0, none⟩ = some (.int .i64 m0) ∧ w'.cell? ⟨M, 1, none⟩ = some (.int .i64 m1) ∧ w'.cell? ⟨M, 2, none⟩ = some (.int .i64 m2) ∧ w'.cell? ⟨M, 3, none⟩ = some (.int .i64 m3) ∧ w'.cell? ⟨M, 4, none⟩ = some (.int .i64 m4) ∧ w'.cell? ⟨M, 5, none⟩ = some (.int .i64 m5) ∧ w'.cell? ⟨M, 6, none⟩ = some (.int .i64 m6) ∧ w'.cell? ⟨M, 7, none⟩ = some (.int .i64 m7) ∧ w'.cell? ⟨N, 0, none⟩ = some (.int .i64 x) ∧ w'.cell? ⟨N, 1, none⟩ = some (.int .i64 y)) ∧ Has w [(M, [.int .i64 m0, .int .i64 m1, .int .i64 m2, .int .i64 m3, .int .i64 m4, .int .i64 m5, .int .i64 m6, .int .i64 m7]), (N, [.int .i64 x, .int .i64 y])] w')) (by kernel_rfl) (ms1.out _ X0) (fun hHeld => ?_)
  refine wpAnyT_begin [0, 1, 2, 3, 4, 5, 6, 7, 8, 9, 10] (by kernel_rfl) (by kernel_rfl) ?_
  refine wpAnyT_take (oi := ⟨some 27, Op.fieldAddr 52 (Operand.tmp 3) 0, 0, _, _, none⟩) (v := .pointer (some ⟨M, 0, none⟩)) rfl (fun _ _ _ h => h) (by rfl) (by assumption) (fun wS hSw => ?_) ?_
  · (try dsimp only at hSw); go_simp
  simp only [Act.put, List.setIfInBounds_toArray, List.set_cons_zero, List.set_cons_succ]
  refine wpAnyT_take (oi := ⟨some 28, Op.fieldAddr 34 (Operand.tmp 27) 0, 0, _, _, none⟩) (v := .pointer (some ⟨M, 0, none⟩)) rfl (fun _ _ _ h => h) (by rfl) (by assumption) (fun wS hSw => ?_) ?_
  · (try dsimp only at hSw); go_simp
  simp only [Act.put, List.setIfInBounds_toArray, List.set_cons_zero, List.set_cons_succ]
  refine wpAnyT_take (oi := ⟨some 29, Op.load 3 (Operand.tmp 28), 3, _, _, none⟩) (v := .int .i64 m0) rfl (fun _ _ _ h => h) (by rfl) (by assumption) (fun wS hSw => ?_) ?_
  · (try dsimp only at hSw); go_simp
  simp only [Act.put, List.setIfInBounds_toArray, List.set_cons_zero, List.set_cons_succ]
  refine wpAnyT_take (oi := ⟨some 30, Op.fieldAddr 52 (Operand.tmp 3) 0, 0, _, _, none⟩) (v := .pointer (some ⟨M, 0, none⟩)) rfl (fun _ _ _ h => h) (by rfl) (by assumption) (fun wS hSw => ?_) ?_
  · (try dsimp only at hSw); go_simp
  simp only [Act.put, List.setIfInBounds_toArray, List.set_cons_zero, List.set_cons_succ]
  refine wpAnyT_take (oi := ⟨some 31, Op.fieldAddr 34 (Operand.tmp 30) 1, 0, _, _, none⟩) (v := .pointer (some ⟨M, 1, none⟩)) rfl (fun _ _ _ h => h) (by rfl) (by assumption) (fun wS hSw => ?_) ?_
  · (try dsimp only at hSw); go_simp
  simp only [Act.put, List.setIfInBounds_toArray, List.set_cons_zero, List.set_cons_succ]
  refine wpAnyT_take (oi := ⟨some 32, Op.load 3 (Operand.tmp 31), 3, _, _, none⟩) (v := .int .i64 m1) rfl (fun _ _ _ h => h) (by rfl) (by assumption) (fun wS hSw => ?_) ?_
  · (try dsimp only at hSw); go_simp
  simp only [Act.put, List.setIfInBounds_toArray, List.set_cons_zero, List.set_cons_succ]
  refine wpAnyT_take (oi := ⟨some 33, Op.fieldAddr 52 (Operand.tmp 3) 0, 0, _, _, none⟩) (v := .pointer (some ⟨M, 0, none⟩)) rfl (fun _ _ _ h => h) (by rfl) (by assumption) (fun wS hSw => ?_) ?_
  · (try dsimp only at hSw); go_simp
  simp only [Act.put, List.setIfInBounds_toArray, List.set_cons_zero, List.set_cons_succ]
  refine wpAnyT_take (oi := ⟨some 34, Op.fieldAddr 34 (Operand.tmp 33) 2, 0, _, _, none⟩) (v := .pointer (some ⟨M, 2, none⟩)) rfl (fun _ _ _ h => h) (by rfl) (by assumption) (fun wS hSw => ?_) ?_
  · (try dsimp only at hSw); go_simp
  simp only [Act.put, List.setIfInBounds_toArray, List.set_cons_zero, List.set_cons_succ]
  refine wpAnyT_take (oi := ⟨some 35, Op.load 3 (Operand.tmp 34), 3, _, _, none⟩) (v := .int .i64 m2) rfl (fun _ _ _ h => h) (by rfl) (by assumption) (fun wS hSw => ?_) ?_
  · (try dsimp only at hSw); go_simp
  simp only [Act.put, List.setIfInBounds_toArray, List.set_cons_zero, List.set_cons_succ]
  refine wpAnyT_take (oi := ⟨some 36, Op.binOp BinOp.and 3 (Operand.tmp 35) (Operand.const (Value.int IntKind.i64 31)) 3, 3, _, _, none⟩) (v := .int .i64 Ea) rfl (fun _ _ _ h => h) (by rfl) (by assumption) (fun wS hSw => ?_) ?_
  · (try dsimp only at hSw); go_simp
  simp only [Act.put, List.setIfInBounds_toArray, List.set_cons_zero, List.set_cons_succ]
  refine wpAnyT_take (oi := ⟨some 37, Op.build 34 #[(0, Operand.tmp 29), (1, Operand.tmp 32), (2, Operand.tmp 36)], 34, _, _, none⟩) (v := .agg #[.int .i64 m0, .int .i64 m1, .int .i64 Ea]) rfl (fun _ _ _ h => h) (by rfl) (by assumption) (fun wS hSw => ?_) ?_
  · (try dsimp only at hSw); go_simp
  simp only [Act.put, List.setIfInBounds_toArray, List.set_cons_zero, List.set_cons_succ]
  refine wpAnyT_end ?_
  refine wpAnyH_listed #[true, true, true, true, true, true, true, true, true, true, true, false, false, false, false, false, false, false, false, false, false, false, false, false, false, false, false, false] (by kernel_rfl) ?_
  refine wpAnyT_begin [12, 13, 14, 15, 16, 17, 18, 19, 20, 21, 22] (by kernel_rfl) (by kernel_rfl) ?_
  refine wpAnyT_take (oi := ⟨some 39, Op.fieldAddr 52 (Operand.tmp 3) 1, 0, _, _, none⟩) (v := .pointer (some ⟨M, 3, none⟩)) rfl (fun _ _ _ h => h) (by rfl) (by assumption) (fun wS hSw => ?_) ?_
  · (try dsimp only at hSw); go_simp
  simp only [Act.put, List.setIfInBounds_toArray, List.set_cons_zero, List.set_cons_succ]
  refine wpAnyT_take (oi := ⟨some 40, Op.fieldAddr 34 (Operand.tmp 39) 0, 0, _, _, none⟩) (v := .pointer (some ⟨M, 3, none⟩)) rfl (fun _ _ _ h => h) (by rfl) (by assumption) (fun wS hSw => ?_) ?_
  · (try dsimp only at hSw); go_simp
  simp only [Act.put, List.setIfInBounds_toArray, List.set_cons_zero, List.set_cons_succ]
  refine wpAnyT_take (oi := ⟨some 41, Op.load 3 (Operand.tmp 40), 3, _, _, none⟩) (v := .int .i64 m3) rfl (fun _ _ _ h => h) (by rfl) (by assumption) (fun wS hSw => ?_) ?_
  · (try dsimp only at hSw); go_simp
  simp only [Act.put, List.setIfInBounds_toArray, List.set_cons_zero, List.set_cons_succ]
  refine wpAnyT_take (oi := ⟨some 42, Op.fieldAddr 52 (Operand.tmp 3) 1, 0, _, _, none⟩) (v := .pointer (some ⟨M, 3, none⟩)) rfl (fun _ _ _ h => h) (by rfl) (by assumption) (fun wS hSw => ?_) ?_
  · (try dsimp only at hSw); go_simp
  simp only [Act.put, List.setIfInBounds_toArray, List.set_cons_zero, List.set_cons_succ]
  refine wpAnyT_take (oi := ⟨some 43, Op.fieldAddr 34 (Operand.tmp 42) 1, 0, _, _, none⟩) (v := .pointer (some ⟨M, 4, none⟩)) rfl (fun _ _ _ h => h) (by rfl) (by assumption) (fun wS hSw => ?_) ?_
  · (try dsimp only at hSw); go_simp
  simp only [Act.put, List.setIfInBounds_toArray, List.set_cons_zero, List.set_cons_succ]
  refine wpAnyT_take (oi := ⟨some 44, Op.load 3 (Operand.tmp 43), 3, _, _, none⟩) (v := .int .i64 m4) rfl (fun _ _ _ h => h) (by rfl) (by assumption) (fun wS hSw => ?_) ?_
  · (try dsimp only at hSw); go_simp
  simp only [Act.put, List.setIfInBounds_toArray, List.set_cons_zero, List.set_cons_succ]
  refine wpAnyT_take (oi := ⟨some 45, Op.fieldAddr 52 (Operand.tmp 3) 1, 0, _, _, none⟩) (v := .pointer (some ⟨M, 3, none⟩)) rfl (fun _ _ _ h => h) (by rfl) (by assumption) (fun wS hSw => ?_) ?_
  · (try dsimp only at hSw); go_simp
  simp only [Act.put, List.setIfInBounds_toArray, List.set_cons_zero, List.set_cons_succ]
  refine wpAnyT_take (oi := ⟨some 46, Op.fieldAddr 34 (Operand.tmp 45) 2, 0, _, _, none⟩) (v := .pointer (some ⟨M, 5, none⟩)) rfl (fun _ _ _ h => h) (by rfl) (by assumption) (fun wS hSw => ?_) ?_
  · (try dsimp only at hSw); go_simp
  simp only [Act.put, List.setIfInBounds_toArray, List.set_cons_zero, List.set_cons_succ]
  refine wpAnyT_take (oi := ⟨some 47, Op.load 3 (Operand.tmp 46), 3, _, _, none⟩) (v := .int .i64 m5) rfl (fun _ _ _ h => h) (by rfl) (by assumption) (fun wS hSw => ?_) ?_
  · (try dsimp only at hSw); go_simp
  simp only [Act.put, List.setIfInBounds_toArray, List.set_cons_zero, List.set_cons_succ]
  refine wpAnyT_take (oi := ⟨some 48, Op.binOp BinOp.and 3 (Operand.tmp 47) (Operand.const (Value.int IntKind.i64 31)) 3, 3, _, _, none⟩) (v := .int .i64 Eb) rfl (fun _ _ _ h => h) (by rfl) (by assumption) (fun wS hSw => ?_) ?_
  · (try dsimp only at hSw); go_simp
  simp only [Act.put, List.setIfInBounds_toArray, List.set_cons_zero, List.set_cons_succ]
  refine wpAnyT_take (oi := ⟨some 49, Op.build 34 #[(0, Operand.tmp 41), (1, Operand.tmp 44), (2, Operand.tmp 48)], 34, _, _, none⟩) (v := .agg #[.int .i64 m3, .int .i64 m4, .int .i64 Eb]) rfl (fun _ _ _ h => h) (by rfl) (by assumption) (fun wS hSw => ?_) ?_
  · (try dsimp only at hSw); go_simp
  simp only [Act.put, List.setIfInBounds_toArray, List.set_cons_zero, List.set_cons_succ]
  refine wpAnyT_end ?_
  refine wpAnyH_listed #[true, true, true, true, true, true, true, true, true, true, true, false, true, true, true, true, true, true, true, true, true, true, true, false, false, false, false, false] (by kernel_rfl) ?_
  refine any_ind (X := St) (n := fun sx => (2 - sx.n) + (if sx.a.isSome then 0 else 1) + (if sx.b.isSome then 0 else 1)) (l := fun sx => #[true, true, true, true, true, true, true, true, true, true, true, decide (1 ≤ sx.n), true, true, true, true, true, true, true, true, true, true, true, decide (2 ≤ sx.n), sx.a.isSome, sx.b.isSome, false, false]) (u := fun sx t => (putc 38 (.agg #[.int .i64 A0, .int .i64 A1, .int .i64 A2]) (decide (1 ≤ sx.n)) (putc 50 (.agg #[.int .i64 B0, .int .i64 B1, .int .i64 B2]) (decide (2 ≤ sx.n)) (putp 8 sx.a (putp 9 sx.b t))))) (I := fun sx w' => sx.n ≤ 2 ∧ Has w (bl [.int .i64 0, .int .i64 0, .int .i64 0] sx.a (bl [.int .i64 0, .int .i64 0, .int .i64 0] sx.b [(M, [.int .i64 m0, .int .i64 m1, .int .i64 m2, .int .i64 m3, .int .i64 m4, .int .i64 m5, .int .i64 m6, .int .i64 m7]), (N, [.int .i64 x, .int .i64 y])])) w') (m := 2) ⟨none, none, none, 0⟩ (by kernel_rfl) (by kernel_rfl) (by kernel_rfl) ⟨Nat.zero_le _, X0⟩ ?_ ?_
  · rintro k ih ⟨pa, pb, pc, c⟩ w2 hk ⟨hc, hH⟩
    clear hHeld
    obtain rfl | rfl | rfl : c = 0 ∨ c = 1 ∨ c = 2 := by simp only at hc; omega
    · cases pa with
      | none =>
        cases pb with
        | none =>
          simp only [Option.isSome, Bool.false_eq_true, if_false, if_true] at hk
          simp only [putc, putp, Act.put, decide_eq_true_eq, decide_true, decide_false, Nat.le_refl, Nat.reduceLeDiff, List.setIfInBounds_toArray, List.set_cons_zero, List.set_cons_succ]
          refine wpAnyH_listed #[true, true, true, true, true, true, true, true, true, true, true, false, true, true, true, true, true, true, true, true, true, true, true, false, false, false, false, false] (by kernel_rfl) ?_
          refine wpAnyH_ready (rs := [11, 24, 25]) (by kernel_rfl) (by simp) ?_
          refine AllReadyH.cons (o := ⟨some 38, Op.call { callee := Callee.value (Operand.func 36), args := #[Operand.tmp 37], argTypes := #[34] }, 34, _, _, none⟩) rfl (fun K hK => ?_) (?_)
          · go_simp
            go_at_call 36
            refine (Has.call hH (cut_is m0 m1 Ea A0 A1 A2 H_hA0.out H_hA1.out H_hA2.out _)).mono ?_
            rintro e W ⟨rfl, hC⟩
            go_wp2_with fail
            refine hK.out _ _ (ms1.out _ hC) (fun _ => ?_)
            exact wpAnyH_cast rfl (by kernel_rfl) (by kernel_rfl) (ih ⟨none, none, pc, 1⟩ _ (by simp only [Option.isSome, Bool.false_eq_true, if_false, if_true]; omega) ⟨by simp, hC⟩)
          refine AllReadyH.cons (o := ⟨some 8, Op.alloc 34, 0, _, _, none⟩) rfl (fun K hK => ?_) (?_)
          · go_simp
            have hC := (hH.push [.int .i64 0, .int .i64 0, .int .i64 0] 34)
            change Has w _ (w2.alloc (.cells #[.int .i64 0, .int .i64 0, .int .i64 0] 34)) at hC
            generalize w2.alloc (.cells #[.int .i64 0, .int .i64 0, .int .i64 0] 34) = W at *
            generalize w2.heap.size = P at *
            have hC' : Has w ([(P, [.int .i64 0, .int .i64 0, .int .i64 0])] ++ [(M, [.int .i64 m0, .int .i64 m1, .int .i64 m2, .int .i64 m3, .int .i64 m4, .int .i64 m5, .int .i64 m6, .int .i64 m7]), (N, [.int .i64 x, .int .i64 y])]) W := hC
            refine hK.out _ _ (ms1.out _ (hC.tail)) (fun _ => ?_)
            exact wpAnyH_cast rfl (by kernel_rfl) (by kernel_rfl) (ih ⟨some P, none, pc, 0⟩ _ (by simp only [Option.isSome, Bool.false_eq_true, if_false, if_true]; omega) ⟨by simp, hC⟩)
          refine AllReadyH.cons (o := ⟨some 9, Op.alloc 34, 0, _, _, none⟩) rfl (fun K hK => ?_) (AllReadyH.nil)
          · go_simp
            have hC := (hH.push [.int .i64 0, .int .i64 0, .int .i64 0] 34)
            change Has w _ (w2.alloc (.cells #[.int .i64 0, .int .i64 0, .int .i64 0] 34)) at hC
            generalize w2.alloc (.cells #[.int .i64 0, .int .i64 0, .int .i64 0] 34) = W at *
            generalize w2.heap.size = Q at *
            have hC' : Has w ([(Q, [.int .i64 0, .int .i64 0, .int .i64 0])] ++ [(M, [.int .i64 m0, .int .i64 m1, .int .i64 m2, .int .i64 m3, .int .i64 m4, .int .i64 m5, .int .i64 m6, .int .i64 m7]), (N, [.int .i64 x, .int .i64 y])]) W := hC
            refine hK.out _ _ (ms1.out _ (hC.tail)) (fun _ => ?_)
            exact wpAnyH_cast rfl (by kernel_rfl) (by kernel_rfl) (ih ⟨none, some Q, pc, 0⟩ _ (by simp only [Option.isSome, Bool.false_eq_true, if_false, if_true]; omega) ⟨by simp, hC⟩)
        | some Q =>
          simp only [Option.isSome, Bool.false_eq_true, if_false, if_true] at hk
          simp only [putc, putp, Act.put, decide_eq_true_eq, decide_true, decide_false, Nat.le_refl, Nat.reduceLeDiff, List.setIfInBounds_toArray, List.set_cons_zero, List.set_cons_succ]
          refine wpAnyH_listed #[true, true, true, true, true, true, true, true, true, true, true, false, true, true, true, true, true, true, true, true, true, true, true, false, false, true, false, false] (by kernel_rfl) ?_
          refine wpAnyH_ready (rs := [11, 24]) (by kernel_rfl) (by simp) ?_
          refine AllReadyH.cons (o := ⟨some 38, Op.call { callee := Callee.value (Operand.func 36), args := #[Operand.tmp 37], argTypes := #[34] }, 34, _, _, none⟩) rfl (fun K hK => ?_) (?_)
          · go_simp
            go_at_call 36
            refine (Has.call hH (cut_is m0 m1 Ea A0 A1 A2 H_hA0.out H_hA1.out H_hA2.out _)).mono ?_
            rintro e W ⟨rfl, hC⟩
            go_wp2_with fail
            refine hK.out _ _ (ms1.out _ hC.tail) (fun _ => ?_)
            exact wpAnyH_cast rfl (by kernel_rfl) (by kernel_rfl) (ih ⟨none, some Q, pc, 1⟩ _ (by simp only [Option.isSome, Bool.false_eq_true, if_false, if_true]; omega) ⟨by simp, hC⟩)
          refine AllReadyH.cons (o := ⟨some 8, Op.alloc 34, 0, _, _, none⟩) rfl (fun K hK => ?_) (AllReadyH.nil)
          · go_simp
            have hC := (hH.push [.int .i64 0, .int .i64 0, .int .i64 0] 34)
            change Has w _ (w2.alloc (.cells #[.int .i64 0, .int .i64 0, .int .i64 0] 34)) at hC
            generalize w2.alloc (.cells #[.int .i64 0, .int .i64 0, .int .i64 0] 34) = W at *
            generalize w2.heap.size = P at *
            have hC' : Has w ([(P, [.int .i64 0, .int .i64 0, .int .i64 0]), (Q, [.int .i64 0, .int .i64 0, .int .i64 0])] ++ [(M, [.int .i64 m0, .int .i64 m1, .int .i64 m2, .int .i64 m3, .int .i64 m4, .int .i64 m5, .int .i64 m6, .int .i64 m7]), (N, [.int .i64 x, .int .i64 y])]) W := hC
            refine hK.out _ _ (ms1.out _ (hC.tail.tail)) (fun _ => ?_)
            exact wpAnyH_cast rfl (by kernel_rfl) (by kernel_rfl) (ih ⟨some P, some Q, pc, 0⟩ _ (by simp only [Option.isSome, Bool.false_eq_true, if_false, if_true]; omega) ⟨by simp, hC⟩)
      | some P =>
        cases pb with
        | none =>
          simp only [Option.isSome, Bool.false_eq_true, if_false, if_true] at hk
          simp only [putc, putp, Act.put, decide_eq_true_eq, decide_true, decide_false, Nat.le_refl, Nat.reduceLeDiff, List.setIfInBounds_toArray, List.set_cons_zero, List.set_cons_succ]
          refine wpAnyH_listed #[true, true, true, true, true, true, true, true, true, true, true, false, true, true, true, true, true, true, true, true, true, true, true, false, true, false, false, false] (by kernel_rfl) ?_
          refine wpAnyH_ready (rs := [11, 25]) (by kernel_rfl) (by simp) ?_
          refine AllReadyH.cons (o := ⟨some 38, Op.call { callee := Callee.value (Operand.func 36), args := #[Operand.tmp 37], argTypes := #[34] }, 34, _, _, none⟩) rfl (fun K hK => ?_) (?_)
          · go_simp
            go_at_call 36
            refine (Has.call hH (cut_is m0 m1 Ea A0 A1 A2 H_hA0.out H_hA1.out H_hA2.out _)).mono ?_
            rintro e W ⟨rfl, hC⟩
            go_wp2_with fail
            refine hK.out _ _ (ms1.out _ hC.tail) (fun _ => ?_)
            exact wpAnyH_cast rfl (by kernel_rfl) (by kernel_rfl) (ih ⟨some P, none, pc, 1⟩ _ (by simp only [Option.isSome, Bool.false_eq_true, if_false, if_true]; omega) ⟨by simp, hC⟩)
          refine AllReadyH.cons (o := ⟨some 9, Op.alloc 34, 0, _, _, none⟩) rfl (fun K hK => ?_) (AllReadyH.nil)
          · go_simp
            have hC := (hH.push [.int .i64 0, .int .i64 0, .int .i64 0] 34).swap
            change Has w _ (w2.alloc (.cells #[.int .i64 0, .int .i64 0, .int .i64 0] 34)) at hC
            generalize w2.alloc (.cells #[.int .i64 0, .int .i64 0, .int .i64 0] 34) = W at *
            generalize w2.heap.size = Q at *
            have hC' : Has w ([(P, [.int .i64 0, .int .i64 0, .int .i64 0]), (Q, [.int .i64 0, .int .i64 0, .int .i64 0])] ++ [(M, [.int .i64 m0, .int .i64 m1, .int .i64 m2, .int .i64 m3, .int .i64 m4, .int .i64 m5, .int .i64 m6, .int .i64 m7]), (N, [.int .i64 x, .int .i64 y])]) W := hC
            refine hK.out _ _ (ms1.out _ (hC.tail.tail)) (fun _ => ?_)
            exact wpAnyH_cast rfl (by kernel_rfl) (by kernel_rfl) (ih ⟨some P, some Q, pc, 0⟩ _ (by simp only [Option.isSome, Bool.false_eq_true, if_false, if_true]; omega) ⟨by simp, hC⟩)
        | some Q =>
          simp only [Option.isSome, Bool.false_eq_true, if_false, if_true] at hk
          simp only [putc, putp, Act.put, decide_eq_true_eq, decide_true, decide_false, Nat.le_refl, Nat.reduceLeDiff, List.setIfInBounds_toArray, List.set_cons_zero, List.set_cons_succ]
          refine wpAnyH_listed #[true, true, true, true, true, true, true, true, true, true, true, false, true, true, true, true, true, true, true, true, true, true, true, false, true, true, false, false] (by kernel_rfl) ?_
          refine wpAnyH_ready (rs := [11]) (by kernel_rfl) (by simp) ?_
          refine AllReadyH.cons (o := ⟨some 38, Op.call { callee := Callee.value (Operand.func 36), args := #[Operand.tmp 37], argTypes := #[34] }, 34, _, _, none⟩) rfl (fun K hK => ?_) (AllReadyH.nil)
          · go_simp
            go_at_call 36
            refine (Has.call hH (cut_is m0 m1 Ea A0 A1 A2 H_hA0.out H_hA1.out H_hA2.out _)).mono ?_
            rintro e W ⟨rfl, hC⟩
            go_wp2_with fail
            refine hK.out _ _ (ms1.out _ hC.tail.tail) (fun _ => ?_)
            exact wpAnyH_cast rfl (by kernel_rfl) (by kernel_rfl) (ih ⟨some P, some Q, pc, 1⟩ _ (by simp only [Option.isSome, Bool.false_eq_true, if_false, if_true]; omega) ⟨by simp, hC⟩)
    · cases pa with
      | none =>
        cases pb with
        | none =>
          simp only [Option.isSome, Bool.false_eq_true, if_false, if_true] at hk
          simp only [putc, putp, Act.put, decide_eq_true_eq, decide_true, decide_false, Nat.le_refl, Nat.reduceLeDiff, List.setIfInBounds_toArray, List.set_cons_zero, List.set_cons_succ]
          refine wpAnyH_listed #[true, true, true, true, true, true, true, true, true, true, true, true, true, true, true, true, true, true, true, true, true, true, true, false, false, false, false, false] (by kernel_rfl) ?_
          refine wpAnyH_ready (rs := [23, 24, 25]) (by kernel_rfl) (by simp) ?_
          refine AllReadyH.cons (o := ⟨some 50, Op.call { callee := Callee.value (Operand.func 36), args := #[Operand.tmp 49], argTypes := #[34] }, 34, _, _, none⟩) rfl (fun K hK => ?_) (?_)
          · go_simp
            go_at_call 36
            refine (Has.call hH (cut_is m3 m4 Eb B0 B1 B2 H_hB0.out H_hB1.out H_hB2.out _)).mono ?_
            rintro e W ⟨rfl, hC⟩
            go_wp2_with fail
            refine hK.out _ _ (ms1.out _ hC) (fun _ => ?_)
            exact wpAnyH_cast rfl (by kernel_rfl) (by kernel_rfl) (ih ⟨none, none, pc, 2⟩ _ (by simp only [Option.isSome, Bool.false_eq_true, if_false, if_true]; omega) ⟨by simp, hC⟩)
          refine AllReadyH.cons (o := ⟨some 8, Op.alloc 34, 0, _, _, none⟩) rfl (fun K hK => ?_) (?_)
          · go_simp
            have hC := (hH.push [.int .i64 0, .int .i64 0, .int .i64 0] 34)
            change Has w _ (w2.alloc (.cells #[.int .i64 0, .int .i64 0, .int .i64 0] 34)) at hC
            generalize w2.alloc (.cells #[.int .i64 0, .int .i64 0, .int .i64 0] 34) = W at *
            generalize w2.heap.size = P at *
            have hC' : Has w ([(P, [.int .i64 0, .int .i64 0, .int .i64 0])] ++ [(M, [.int .i64 m0, .int .i64 m1, .int .i64 m2, .int .i64 m3, .int .i64 m4, .int .i64 m5, .int .i64 m6, .int .i64 m7]), (N, [.int .i64 x, .int .i64 y])]) W := hC
            refine hK.out _ _ (ms1.out _ (hC.tail)) (fun _ => ?_)
            exact wpAnyH_cast rfl (by kernel_rfl) (by kernel_rfl) (ih ⟨some P, none, pc, 1⟩ _ (by simp only [Option.isSome, Bool.false_eq_true, if_false, if_true]; omega) ⟨by simp, hC⟩)
          refine AllReadyH.cons (o := ⟨some 9, Op.alloc 34, 0, _, _, none⟩) rfl (fun K hK => ?_) (AllReadyH.nil)
          · go_simp
            have hC := (hH.push [.int .i64 0, .int .i64 0, .int .i64 0] 34)
            change Has w _ (w2.alloc (.cells #[.int .i64 0, .int .i64 0, .int .i64 0] 34)) at hC
            generalize w2.alloc (.cells #[.int .i64 0, .int .i64 0, .int .i64 0] 34) = W at *
            generalize w2.heap.size = Q at *
            have hC' : Has w ([(Q, [.int .i64 0, .int .i64 0, .int .i64 0])] ++ [(M, [.int .i64 m0, .int .i64 m1, .int .i64 m2, .int .i64 m3, .int .i64 m4, .int .i64 m5, .int .i64 m6, .int .i64 m7]), (N, [.int .i64 x, .int .i64 y])]) W := hC
            refine hK.out _ _ (ms1.out _ (hC.tail)) (fun _ => ?_)
            exact wpAnyH_cast rfl (by kernel_rfl) (by kernel_rfl) (ih ⟨none, some Q, pc, 1⟩ _ (by simp only [Option.isSome, Bool.false_eq_true, if_false, if_true]; omega) ⟨by simp, hC⟩)
        | some Q =>
          simp only [Option.isSome, Bool.false_eq_true, if_false, if_true] at hk
          simp only [putc, putp, Act.put, decide_eq_true_eq, decide_true, decide_false, Nat.le_refl, Nat.reduceLeDiff, List.setIfInBounds_toArray, List.set_cons_zero, List.set_cons_succ]
          refine wpAnyH_listed #[true, true, true, true, true, true, true, true, true, true, true, true, true, true, true, true, true, true, true, true, true, true, true, false, false, true, false, false] (by kernel_rfl) ?_
          refine wpAnyH_ready (rs := [23, 24]) (by kernel_rfl) (by simp) ?_
          refine AllReadyH.cons (o := ⟨some 50, Op.call { callee := Callee.value (Operand.func 36), args := #[Operand.tmp 49], argTypes := #[34] }, 34, _, _, none⟩) rfl (fun K hK => ?_) (?_)
          · go_simp
            go_at_call 36
            refine (Has.call hH (cut_is m3 m4 Eb B0 B1 B2 H_hB0.out H_hB1.out H_hB2.out _)).mono ?_
            rintro e W ⟨rfl, hC⟩
            go_wp2_with fail
            refine hK.out _ _ (ms1.out _ hC.tail) (fun _ => ?_)
            exact wpAnyH_cast rfl (by kernel_rfl) (by kernel_rfl) (ih ⟨none, some Q, pc, 2⟩ _ (by simp only [Option.isSome, Bool.false_eq_true, if_false, if_true]; omega) ⟨by simp, hC⟩)
          refine AllReadyH.cons (o := ⟨some 8, Op.alloc 34, 0, _, _, none⟩) rfl (fun K hK => ?_) (AllReadyH.nil)
          · go_simp
            have hC := (hH.push [.int .i64 0, .int .i64 0, .int .i64 0] 34)
            change Has w _ (w2.alloc (.cells #[.int .i64 0, .int .i64 0, .int .i64 0] 34)) at hC
            generalize w2.alloc (.cells #[.int .i64 0, .int .i64 0, .int .i64 0] 34) = W at *
            generalize w2.heap.size = P at *
            have hC' : Has w ([(P, [.int .i64 0, .int .i64 0, .int .i64 0]), (Q, [.int .i64 0, .int .i64 0, .int .i64 0])] ++ [(M, [.int .i64 m0, .int .i64 m1, .int .i64 m2, .int .i64 m3, .int .i64 m4, .int .i64 m5, .int .i64 m6, .int .i64 m7]), (N, [.int .i64 x, .int .i64 y])]) W := hC
            refine hK.out _ _ (ms1.out _ (hC.tail.tail)) (fun _ => ?_)
            exact wpAnyH_cast rfl (by kernel_rfl) (by kernel_rfl) (ih ⟨some P, some Q, pc, 1⟩ _ (by simp only [Option.isSome, Bool.false_eq_true, if_false, if_true]; omega) ⟨by simp, hC⟩)
      | some P =>
        cases pb with
        | none =>
          simp only [Option.isSome, Bool.false_eq_true, if_false, if_true] at hk
          simp only [putc, putp, Act.put, decide_eq_true_eq, decide_true, decide_false, Nat.le_refl, Nat.reduceLeDiff, List.setIfInBounds_toArray, List.set_cons_zero, List.set_cons_succ]
          refine wpAnyH_listed #[true, true, true, true, true, true, true, true, true, true, true, true, true, true, true, true, true, true, true, true, true, true, true, false, true, false, false, false] (by kernel_rfl) ?_
          refine wpAnyH_ready (rs := [23, 25]) (by kernel_rfl) (by simp) ?_
          refine AllReadyH.cons (o := ⟨some 50, Op.call { callee := Callee.value (Operand.func 36), args := #[Operand.tmp 49], argTypes := #[34] }, 34, _, _, none⟩) rfl (fun K hK => ?_) (?_)
          · go_simp
            go_at_call 36
            refine (Has.call hH (cut_is m3 m4 Eb B0 B1 B2 H_hB0.out H_hB1.out H_hB2.out _)).mono ?_
            rintro e W ⟨rfl, hC⟩
            go_wp2_with fail
            refine hK.out _ _ (ms1.out _ hC.tail) (fun _ => ?_)
            exact wpAnyH_cast rfl (by kernel_rfl) (by kernel_rfl) (ih ⟨some P, none, pc, 2⟩ _ (by simp only [Option.isSome, Bool.false_eq_true, if_false, if_true]; omega) ⟨by simp, hC⟩)
          refine AllReadyH.cons (o := ⟨some 9, Op.alloc 34, 0, _, _, none⟩) rfl (fun K hK => ?_) (AllReadyH.nil)
          · go_simp
            have hC := (hH.push [.int .i64 0, .int .i64 0, .int .i64 0] 34).swap
            change Has w _ (w2.alloc (.cells #[.int .i64 0, .int .i64 0, .int .i64 0] 34)) at hC
            generalize w2.alloc (.cells #[.int .i64 0, .int .i64 0, .int .i64 0] 34) = W at *
            generalize w2.heap.size = Q at *
            have hC' : Has w ([(P, [.int .i64 0, .int .i64 0, .int .i64 0]), (Q, [.int .i64 0, .int .i64 0, .int .i64 0])] ++ [(M, [.int .i64 m0, .int .i64 m1, .int .i64 m2, .int .i64 m3, .int .i64 m4, .int .i64 m5, .int .i64 m6, .int .i64 m7]), (N, [.int .i64 x, .int .i64 y])]) W := hC
            refine hK.out _ _ (ms1.out _ (hC.tail.tail)) (fun _ => ?_)
            exact wpAnyH_cast rfl (by kernel_rfl) (by kernel_rfl) (ih ⟨some P, some Q, pc, 1⟩ _ (by simp only [Option.isSome, Bool.false_eq_true, if_false, if_true]; omega) ⟨by simp, hC⟩)
        | some Q =>
          simp only [Option.isSome, Bool.false_eq_true, if_false, if_true] at hk
          simp only [putc, putp, Act.put, decide_eq_true_eq, decide_true, decide_false, Nat.le_refl, Nat.reduceLeDiff, List.setIfInBounds_toArray, List.set_cons_zero, List.set_cons_succ]
          refine wpAnyH_listed #[true, true, true, true, true, true, true, true, true, true, true, true, true, true, true, true, true, true, true, true, true, true, true, false, true, true, false, false] (by kernel_rfl) ?_
          refine wpAnyH_ready (rs := [23]) (by kernel_rfl) (by simp) ?_
          refine AllReadyH.cons (o := ⟨some 50, Op.call { callee := Callee.value (Operand.func 36), args := #[Operand.tmp 49], argTypes := #[34] }, 34, _, _, none⟩) rfl (fun K hK => ?_) (AllReadyH.nil)
          · go_simp
            go_at_call 36
            refine (Has.call hH (cut_is m3 m4 Eb B0 B1 B2 H_hB0.out H_hB1.out H_hB2.out _)).mono ?_
            rintro e W ⟨rfl, hC⟩
            go_wp2_with fail
            refine hK.out _ _ (ms1.out _ hC.tail.tail) (fun _ => ?_)
            exact wpAnyH_cast rfl (by kernel_rfl) (by kernel_rfl) (ih ⟨some P, some Q, pc, 2⟩ _ (by simp only [Option.isSome, Bool.false_eq_true, if_false, if_true]; omega) ⟨by simp, hC⟩)
    · cases pa with
      | none =>
        cases pb with
        | none =>
          simp only [Option.isSome, Bool.false_eq_true, if_false, if_true] at hk
          simp only [putc, putp, Act.put, decide_eq_true_eq, decide_true, decide_false, Nat.le_refl, Nat.reduceLeDiff, List.setIfInBounds_toArray, List.set_cons_zero, List.set_cons_succ]
          refine wpAnyH_listed #[true, true, true, true, true, true, true, true, true, true, true, true, true, true, true, true, true, true, true, true, true, true, true, true, false, false, false, false] (by kernel_rfl) ?_
          refine wpAnyH_ready (rs := [24, 25]) (by kernel_rfl) (by simp) ?_
          refine AllReadyH.cons (o := ⟨some 8, Op.alloc 34, 0, _, _, none⟩) rfl (fun K hK => ?_) (?_)
          · go_simp
            have hC := (hH.push [.int .i64 0, .int .i64 0, .int .i64 0] 34)
            change Has w _ (w2.alloc (.cells #[.int .i64 0, .int .i64 0, .int .i64 0] 34)) at hC
            generalize w2.alloc (.cells #[.int .i64 0, .int .i64 0, .int .i64 0] 34) = W at *
            generalize w2.heap.size = P at *
            have hC' : Has w ([(P, [.int .i64 0, .int .i64 0, .int .i64 0])] ++ [(M, [.int .i64 m0, .int .i64 m1, .int .i64 m2, .int .i64 m3, .int .i64 m4, .int .i64 m5, .int .i64 m6, .int .i64 m7]), (N, [.int .i64 x, .int .i64 y])]) W := hC
            refine hK.out _ _ (ms1.out _ (hC.tail)) (fun _ => ?_)
            exact wpAnyH_cast rfl (by kernel_rfl) (by kernel_rfl) (ih ⟨some P, none, pc, 2⟩ _ (by simp only [Option.isSome, Bool.false_eq_true, if_false, if_true]; omega) ⟨by simp, hC⟩)
          refine AllReadyH.cons (o := ⟨some 9, Op.alloc 34, 0, _, _, none⟩) rfl (fun K hK => ?_) (AllReadyH.nil)
          · go_simp
            have hC := (hH.push [.int .i64 0, .int .i64 0, .int .i64 0] 34)
            change Has w _ (w2.alloc (.cells #[.int .i64 0, .int .i64 0, .int .i64 0] 34)) at hC
            generalize w2.alloc (.cells #[.int .i64 0, .int .i64 0, .int .i64 0] 34) = W at *
            generalize w2.heap.size = Q at *
            have hC' : Has w ([(Q, [.int .i64 0, .int .i64 0, .int .i64 0])] ++ [(M, [.int .i64 m0, .int .i64 m1, .int .i64 m2, .int .i64 m3, .int .i64 m4, .int .i64 m5, .int .i64 m6, .int .i64 m7]), (N, [.int .i64 x, .int .i64 y])]) W := hC
            refine hK.out _ _ (ms1.out _ (hC.tail)) (fun _ => ?_)
            exact wpAnyH_cast rfl (by kernel_rfl) (by kernel_rfl) (ih ⟨none, some Q, pc, 2⟩ _ (by simp only [Option.isSome, Bool.false_eq_true, if_false, if_true]; omega) ⟨by simp, hC⟩)
        | some Q =>
          simp only [Option.isSome, Bool.false_eq_true, if_false, if_true] at hk
          simp only [putc, putp, Act.put, decide_eq_true_eq, decide_true, decide_false, Nat.le_refl, Nat.reduceLeDiff, List.setIfInBounds_toArray, List.set_cons_zero, List.set_cons_succ]
          refine wpAnyH_listed #[true, true, true, true, true, true, true, true, true, true, true, true, true, true, true, true, true, true, true, true, true, true, true, true, false, true, false, false] (by kernel_rfl) ?_
          refine wpAnyH_ready (rs := [24]) (by kernel_rfl) (by simp) ?_
          refine AllReadyH.cons (o := ⟨some 8, Op.alloc 34, 0, _, _, none⟩) rfl (fun K hK => ?_) (AllReadyH.nil)
          · go_simp
            have hC := (hH.push [.int .i64 0, .int .i64 0, .int .i64 0] 34)
            change Has w _ (w2.alloc (.cells #[.int .i64 0, .int .i64 0, .int .i64 0] 34)) at hC
            generalize w2.alloc (.cells #[.int .i64 0, .int .i64 0, .int .i64 0] 34) = W at *
            generalize w2.heap.size = P at *
            have hC' : Has w ([(P, [.int .i64 0, .int .i64 0, .int .i64 0]), (Q, [.int .i64 0, .int .i64 0, .int .i64 0])] ++ [(M, [.int .i64 m0, .int .i64 m1, .int .i64 m2, .int .i64 m3, .int .i64 m4, .int .i64 m5, .int .i64 m6, .int .i64 m7]), (N, [.int .i64 x, .int .i64 y])]) W := hC
            refine hK.out _ _ (ms1.out _ (hC.tail.tail)) (fun _ => ?_)
            exact wpAnyH_cast rfl (by kernel_rfl) (by kernel_rfl) (ih ⟨some P, some Q, pc, 2⟩ _ (by simp only [Option.isSome, Bool.false_eq_true, if_false, if_true]; omega) ⟨by simp, hC⟩)
      | some P =>
        cases pb with
        | none =>
          simp only [Option.isSome, Bool.false_eq_true, if_false, if_true] at hk
          simp only [putc, putp, Act.put, decide_eq_true_eq, decide_true, decide_false, Nat.le_refl, Nat.reduceLeDiff, List.setIfInBounds_toArray, List.set_cons_zero, List.set_cons_succ]
          refine wpAnyH_listed #[true, true, true, true, true, true, true, true, true, true, true, true, true, true, true, true, true, true, true, true, true, true, true, true, true, false, false, false] (by kernel_rfl) ?_
          refine wpAnyH_ready (rs := [25]) (by kernel_rfl) (by simp) ?_
          refine AllReadyH.cons (o := ⟨some 9, Op.alloc 34, 0, _, _, none⟩) rfl (fun K hK => ?_) (AllReadyH.nil)
          · go_simp
            have hC := (hH.push [.int .i64 0, .int .i64 0, .int .i64 0] 34).swap
            change Has w _ (w2.alloc (.cells #[.int .i64 0, .int .i64 0, .int .i64 0] 34)) at hC
            generalize w2.alloc (.cells #[.int .i64 0, .int .i64 0, .int .i64 0] 34) = W at *
            generalize w2.heap.size = Q at *
            have hC' : Has w ([(P, [.int .i64 0, .int .i64 0, .int .i64 0]), (Q, [.int .i64 0, .int .i64 0, .int .i64 0])] ++ [(M, [.int .i64 m0, .int .i64 m1, .int .i64 m2, .int .i64 m3, .int .i64 m4, .int .i64 m5, .int .i64 m6, .int .i64 m7]), (N, [.int .i64 x, .int .i64 y])]) W := hC
            refine hK.out _ _ (ms1.out _ (hC.tail.tail)) (fun _ => ?_)
            exact wpAnyH_cast rfl (by kernel_rfl) (by kernel_rfl) (ih ⟨some P, some Q, pc, 2⟩ _ (by simp only [Option.isSome, Bool.false_eq_true, if_false, if_true]; omega) ⟨by simp, hC⟩)
        | some Q =>
          exact absurd hk (by simp)
  rintro ⟨pa, pb, pc, c⟩ w2 hk ⟨hc, hH⟩
  obtain ⟨P, Q, rfl, rfl, rfl⟩ : ∃ P Q, pa = some P ∧ pb = some Q ∧ c = 2 := by
    cases pa <;> cases pb <;> simp only [Option.isSome, Bool.false_eq_true, if_false, if_true] at hk <;> simp only at hc <;> first | exact ⟨_, _, rfl, rfl, by omega⟩ | omega
  simp only [putc, putp, Act.put, decide_eq_true_eq, decide_true, decide_false, Nat.le_refl, Nat.reduceLeDiff, List.setIfInBounds_toArray, List.set_cons_zero, List.set_cons_succ]
  have XA := hH
  change Has w [(P, [.int .i64 0, .int .i64 0, .int .i64 0]), (Q, [.int .i64 0, .int .i64 0, .int .i64 0]), (M, [.int .i64 m0, .int .i64 m1, .int .i64 m2, .int .i64 m3, .int .i64 m4, .int .i64 m5, .int .i64 m6, .int .i64 m7]), (N, [.int .i64 x, .int .i64 y])] w2 at XA
  clear hH hk hc
  refine wpAnyH_listed #[true, true, true, true, true, true, true, true, true, true, true, true, true, true, true, true, true, true, true, true, true, true, true, true, true, true, false, false] (by kernel_rfl) ?_
  refine wpAnyH_ready (rs := [26]) (by kernel_rfl) (by simp) ?_
  refine AllReadyH.cons (o := ⟨none, Op.store 34 (Operand.tmp 8) (Operand.tmp 38), 0, _, _, none⟩) rfl (fun K hK => ?_) AllReadyH.nil
  have sk0 := XA.fact (.head _) (i := 0) rfl
  have sk1 := XA.fact (.head _) (i := 1) rfl
  have sk2 := XA.fact (.head _) (i := 2) rfl
  have sf0 := XA.free (.head _) (i := 0) rfl
  have sf1 := XA.free (.head _) (i := 1) rfl
  have sf2 := XA.free (.head _) (i := 2) rfl
  go_simp
  have XA0 : Has w [(P, [.int .i64 A0, .int .i64 A1, .int .i64 A2]), (Q, [.int .i64 0, .int .i64 0, .int .i64 0]), (M, [.int .i64 m0, .int .i64 m1, .int .i64 m2, .int .i64 m3, .int .i64 m4, .int .i64 m5, .int .i64 m6, .int .i64 m7]), (N, [.int .i64 x, .int .i64 y])] (World.setCell (World.setCell (World.setCell w2 ⟨P, 0, none⟩ (.int .i64 A0)) ⟨P, 1, none⟩ (.int .i64 A1)) ⟨P, 2, none⟩ (.int .i64 A2)) := (XA.set3 (.int .i64 A0) (.int .i64 A1) (.int .i64 A2))
  generalize (World.setCell (World.setCell (World.setCell w2 ⟨P, 0, none⟩ (.int .i64 A0)) ⟨P, 1, none⟩ (.int .i64 A1)) ⟨P, 2, none⟩ (.int .i64 A2)) = wA0 at *
  clear sk0 sf0 sk1 sf1 sk2 sf2 XA
  clear hHeld
  refine hK.out _ _ (ms1.out _ XA0.tail.tail) (fun hHeld => ?_)
  clear hK K
  try simp only [List.setIfInBounds_toArray, List.set_cons_zero, List.set_cons_succ]
  refine wpAnyH_listed #[true, true, true, true, true, true, true, true, true, true, true, true, true, true, true, true, true, true, true, true, true, true, true, true, true, true, true, false] (by kernel_rfl) ?_
  refine wpAnyH_ready (rs := [27]) (by kernel_rfl) (by simp) ?_
  refine AllReadyH.cons (o := ⟨none, Op.store 34 (Operand.tmp 9) (Operand.tmp 50), 0, _, _, none⟩) rfl (fun K hK => ?_) AllReadyH.nil
  have sk0 := XA0.tail.fact (.head _) (i := 0) rfl
  have sk1 := XA0.tail.fact (.head _) (i := 1) rfl
  have sk2 := XA0.tail.fact (.head _) (i := 2) rfl
  have sf0 := XA0.tail.free (.head _) (i := 0) rfl
  have sf1 := XA0.tail.free (.head _) (i := 1) rfl
  have sf2 := XA0.tail.free (.head _) (i := 2) rfl
  go_simp
  have X1 : Has w [(P, [.int .i64 A0, .int .i64 A1, .int .i64 A2]), (Q, [.int .i64 B0, .int .i64 B1, .int .i64 B2]), (M, [.int .i64 m0, .int .i64 m1, .int .i64 m2, .int .i64 m3, .int .i64 m4, .int .i64 m5, .int .i64 m6, .int .i64 m7]), (N, [.int .i64 x, .int .i64 y])] (World.setCell (World.setCell (World.setCell wA0 ⟨Q, 0, none⟩ (.int .i64 B0)) ⟨Q, 1, none⟩ (.int .i64 B1)) ⟨Q, 2, none⟩ (.int .i64 B2)) := (XA0.swap.set3 (.int .i64 B0) (.int .i64 B1) (.int .i64 B2)).swap
  generalize (World.setCell (World.setCell (World.setCell wA0 ⟨Q, 0, none⟩ (.int .i64 B0)) ⟨Q, 1, none⟩ (.int .i64 B1)) ⟨Q, 2, none⟩ (.int .i64 B2)) = y0 at *
  clear sk0 sf0 sk1 sf1 sk2 sf2 XA0
  clear hHeld
  refine hK.out _ _ (ms1.out _ X1.tail.tail) (fun hHeld => ?_)
  clear hK K
  try simp only [List.setIfInBounds_toArray, List.set_cons_zero, List.set_cons_succ]
  refine wpAnyH_listed #[true, true, true, true, true, true, true, true, true, true, true, true, true, true, true, true, true, true, true, true, true, true, true, true, true, true, true, true] (by kernel_rfl) ?_
  refine wpAnyH_done (by kernel_rfl) ?_ _
  try clear hHeld
  clear C1 X0 ms1
  have k0 := X1.tail.tail.tail.fact (.head _) (i := 0) rfl
  have k1 := X1.tail.tail.tail.fact (.head _) (i := 1) rfl
  have f0 := X1.tail.tail.tail.free (.head _) (i := 0) rfl
  have f1 := X1.tail.tail.tail.free (.head _) (i := 1) rfl
  go_wp2_with fail
  refine (Has.call X1 (pt_any _ _ _)).mono ?_
  rintro e o1 ⟨rfl, X2⟩
  clear k0 k1 f0 f1 X1
  have k0 := X2.tail.tail.tail.fact (.head _) (i := 0) rfl
  have k1 := X2.tail.tail.tail.fact (.head _) (i := 1) rfl
  have f0 := X2.tail.tail.tail.free (.head _) (i := 0) rfl
  have f1 := X2.tail.tail.tail.free (.head _) (i := 1) rfl
  go_upto_region 4 with fail
  have X3 : Has w [(N, [.int .i64 px, .int .i64 py]), (P, [.int .i64 A0, .int .i64 A1, .int .i64 A2]), (Q, [.int .i64 B0, .int .i64 B1, .int .i64 B2]), (M, [.int .i64 m0, .int .i64 m1, .int .i64 m2, .int .i64 m3, .int .i64 m4, .int .i64 m5, .int .i64 m6, .int .i64 m7])] ((o1.setCell ⟨N, 0, none⟩ (.int .i64 px)).setCell ⟨N, 1, none⟩ (.int .i64 py)) := X2.fourth.set2 (.int .i64 px) (.int .i64 py)
  generalize (o1.setCell ⟨N, 0, none⟩ (.int .i64 px)).setCell ⟨N, 1, none⟩ (.int .i64 py) = y1 at *
  clear k0 k1 f0 f1 X2
  have c7 := X3.tail.tail.tail.fact (.head _) (i := 7) rfl
  have c6 := X3.tail.tail.tail.fact (.head _) (i := 6) rfl
  go_wp2_with fail
  refine (mod_any _ _ _ (by omega) (by omega)).mono ?_
  rintro e vv ⟨rfl, rfl⟩
  go_wp2_with fail
  refine (mod_any _ _ _ (by omega) (by omega)).mono ?_
  rintro e vv ⟨rfl, rfl⟩
  rw [H_hF.out]
  go_upto_region 6 with fail
  have X4 := X3.push [.int .i64 F, .int .i64 D] 50
  change Has w _ (y1.alloc (.cells #[.int .i64 F, .int .i64 D] 50)) at X4
  generalize y1.alloc (.cells #[.int .i64 F, .int .i64 D] 50) = y2 at *
  generalize y1.heap.size = T at *
  clear X3 c6 c7
  have X5 := X4.sub (cs := [(T, [.int .i64 F, .int .i64 D]), (N, [.int .i64 px, .int .i64 py]), (P, [.int .i64 A0, .int .i64 A1, .int .i64 A2]), (Q, [.int .i64 B0, .int .i64 B1, .int .i64 B2])]) (.cons_cons _ (.cons_cons _ (.cons_cons _ (.cons_cons _ (.cons _ .slnil)))))
  clear X4
  have a0 := X5.tail.tail.fact (.head _) (i := 0) rfl
  have a1 := X5.tail.tail.fact (.head _) (i := 1) rfl
  have a2 := X5.tail.tail.fact (.head _) (i := 2) rfl
  have b0 := X5.tail.tail.tail.fact (.head _) (i := 0) rfl
  have b1 := X5.tail.tail.tail.fact (.head _) (i := 1) rfl
  have b2 := X5.tail.tail.tail.fact (.head _) (i := 2) rfl
  have c0 := X5.fact (.head _) (i := 0) rfl
  have c1 := X5.fact (.head _) (i := 1) rfl
  go_wp2_with fail
  refine (Has.call X5 (move_is A0 A1 A2 B0 B1 B2 F D s0 s1 s2 true HS1.out.m0 HS1.out.m1 HS1.out.m2 HS1.out.i _)).mono ?_
  rintro e o2 ⟨rfl, X6⟩
  clear a0 a1 a2 b0 b1 b2 c0 c1 X5
  go_upto_region 7 with fail
  have X7 := X6.push [.int .i64 s0, .int .i64 s1, .int .i64 s2] 34
  change Has w _ (o2.alloc (.cells #[.int .i64 s0, .int .i64 s1, .int .i64 s2] 34)) at X7
  generalize o2.alloc (.cells #[.int .i64 s0, .int .i64 s1, .int .i64 s2] 34) = y3 at *
  generalize o2.heap.size = Z1 at *
  clear X6
  have a0 := X7.tail.tail.tail.fact (.head _) (i := 0) rfl
  have a1 := X7.tail.tail.tail.fact (.head _) (i := 1) rfl
  have a2 := X7.tail.tail.tail.fact (.head _) (i := 2) rfl
  have b0 := X7.tail.tail.tail.tail.fact (.head _) (i := 0) rfl
  have b1 := X7.tail.tail.tail.tail.fact (.head _) (i := 1) rfl
  have b2 := X7.tail.tail.tail.tail.fact (.head _) (i := 2) rfl
  go_wp2_with fail
  refine (Has.call X7 (move_is A0 A1 A2 B0 B1 B2 0 D f0 f1 f2 true HS2.out.m0 HS2.out.m1 HS2.out.m2 HS2.out.i _)).mono ?_
  rintro e o3 ⟨rfl, X8⟩
  clear a0 a1 a2 b0 b1 b2 X7
  go_upto_region 8 with fail
  have X9 := X8.push [.int .i64 f0, .int .i64 f1, .int .i64 f2] 34
  change Has w _ (o3.alloc (.cells #[.int .i64 f0, .int .i64 f1, .int .i64 f2] 34)) at X9
  generalize o3.alloc (.cells #[.int .i64 f0, .int .i64 f1, .int .i64 f2] 34) = y4 at *
  generalize o3.heap.size = Z2 at *
  clear X8
  have a0 := X9.tail.tail.tail.tail.fact (.head _) (i := 0) rfl
  have a1 := X9.tail.tail.tail.tail.fact (.head _) (i := 1) rfl
  have a2 := X9.tail.tail.tail.tail.fact (.head _) (i := 2) rfl
  have b0 := X9.tail.tail.tail.tail.tail.fact (.head _) (i := 0) rfl
  have b1 := X9.tail.tail.tail.tail.tail.fact (.head _) (i := 1) rfl
  have b2 := X9.tail.tail.tail.tail.tail.fact (.head _) (i := 2) rfl
  go_wp2_with fail
  refine (Has.call X9 (move_is A0 A1 A2 B0 B1 B2 D D t0 t1 t2 true HS3.out.m0 HS3.out.m1 HS3.out.m2 HS3.out.i _)).mono ?_
  rintro e o4 ⟨rfl, X10⟩
  clear a0 a1 a2 b0 b1 b2 X9
  go_upto_region 9 with fail
  have X11 := X10.push [.int .i64 t0, .int .i64 t1, .int .i64 t2] 34
  change Has w _ (o4.alloc (.cells #[.int .i64 t0, .int .i64 t1, .int .i64 t2] 34)) at X11
  generalize o4.alloc (.cells #[.int .i64 t0, .int .i64 t1, .int .i64 t2] 34) = y5 at *
  generalize o4.heap.size = Z3 at *
  clear X10
  have a0 := X11.tail.tail.fact (.head _) (i := 0) rfl
  have a1 := X11.tail.tail.fact (.head _) (i := 1) rfl
  have a2 := X11.tail.tail.fact (.head _) (i := 2) rfl
  go_upto_region 11 with fail
  clear a0 a1 a2
  have Y0 := X11.drew
  have ms2 := Lib.hid (show ∀ w', Has w [(Z3, [.int .i64 t0, .int .i64 t1, .int .i64 t2]), (Z2, [.int .i64 f0, .int .i64 f1, .int .i64 f2]), (Z1, [.int .i64 s0, .int .i64 s1, .int .i64 s2]), (T, [.int .i64 F, .int .i64 D]), (N, [.int .i64 px, .int .i64 py]), (P, [.int .i64 A0, .int .i64 A1, .int .i64 A2]), (Q, [.int .i64 B0, .int .i64 B1, .int .i64 B2])] w' → (w'.cell? ⟨Z1, 0, none⟩ = some (.int .i64 s0) ∧ w'.cell? ⟨Z1, 1, none⟩ = some (.int .i64 s1) ∧ w'.cell? ⟨Z1, 2, none⟩ = some (.int .i64 s2)) ∧ Has w [(Z3, [.int .i64 t0, .int .i64 t1, .int .i64 t2]), (Z2, [.int .i64 f0, .int .i64 f1, .int .i64 f2]), (Z1, [.int .i64 s0, .int .i64 s1, .int .i64 s2]), (T, [.int .i64 F, .int .i64 D]), (N, [.int .i64 px, .int .i64 py]), (P, [.int .i64 A0, .int .i64 A1, .int .i64 A2]), (Q, [.int .i64 B0, .int .i64 B1, .int .i64 B2])] w' from fun w' h => ⟨⟨h.tail.tail.fact (.head _) (i := 0) rfl, h.tail.tail.fact (.head _) (i := 1) rfl, h.tail.tail.fact (.head _) (i := 2) rfl⟩, h⟩)
  refine wp_region_held_drew (S := (fun w' => (w'.cell? ⟨Z1, 0, none⟩ = some (.int .i64 s0) ∧ w'.cell? ⟨Z1, 1, none⟩ = some (.int .i64 s1) ∧ w'.cell? ⟨Z1, 2, none⟩ = some (.int .i64 s2)) ∧ Has w [(Z3, [.int .i64 t0, .int .i64 t1, .int .i64 t2]), (Z2, [.int .i64 f0, .int .i64 f1, .int .i64 f2]), (Z1, [.int .i64 s0, .int .i64 s1, .int .i64 s2]), (T, [.int .i64 F, .int .i64 D]), (N, [.int .i64 px, .int .i64 py]), (P, [.int .i64 A0, .int .i64 A1, .int .i64 A2]), (Q, [.int .i64 B0, .int .i64 B1, .int .i64 B2])] w')) (by kernel_rfl) (ms2.out _ Y0) (fun hHeld => ?_)
  refine wpAnyT_begin [0, 1, 2, 3, 5, 6] (by kernel_rfl) (by kernel_rfl) ?_
  refine wpAnyT_take (oi := ⟨some 110, Op.fieldAddr 34 (Operand.tmp 12) 0, 0, _, _, none⟩) (v := .pointer (some ⟨Z1, 0, none⟩)) rfl (fun _ _ _ h => h) (by rfl) (by assumption) (fun wS hSw => ?_) ?_
  · (try dsimp only at hSw); go_simp
  simp only [Act.put, List.setIfInBounds_toArray, List.set_cons_zero, List.set_cons_succ]
  refine wpAnyT_take (oi := ⟨some 111, Op.load 3 (Operand.tmp 110), 3, _, _, none⟩) (v := .int .i64 s0) rfl (fun _ _ _ h => h) (by rfl) (by assumption) (fun wS hSw => ?_) ?_
  · (try dsimp only at hSw); go_simp
  simp only [Act.put, List.setIfInBounds_toArray, List.set_cons_zero, List.set_cons_succ]
  refine wpAnyT_take (oi := ⟨some 112, Op.fieldAddr 34 (Operand.tmp 12) 1, 0, _, _, none⟩) (v := .pointer (some ⟨Z1, 1, none⟩)) rfl (fun _ _ _ h => h) (by rfl) (by assumption) (fun wS hSw => ?_) ?_
  · (try dsimp only at hSw); go_simp
  simp only [Act.put, List.setIfInBounds_toArray, List.set_cons_zero, List.set_cons_succ]
  refine wpAnyT_take (oi := ⟨some 113, Op.load 3 (Operand.tmp 112), 3, _, _, none⟩) (v := .int .i64 s1) rfl (fun _ _ _ h => h) (by rfl) (by assumption) (fun wS hSw => ?_) ?_
  · (try dsimp only at hSw); go_simp
  simp only [Act.put, List.setIfInBounds_toArray, List.set_cons_zero, List.set_cons_succ]
  refine wpAnyT_take (oi := ⟨some 115, Op.fieldAddr 34 (Operand.tmp 12) 2, 0, _, _, none⟩) (v := .pointer (some ⟨Z1, 2, none⟩)) rfl (fun _ _ _ h => h) (by rfl) (by assumption) (fun wS hSw => ?_) ?_
  · (try dsimp only at hSw); go_simp
  simp only [Act.put, List.setIfInBounds_toArray, List.set_cons_zero, List.set_cons_succ]
  refine wpAnyT_take (oi := ⟨some 116, Op.load 3 (Operand.tmp 115), 3, _, _, none⟩) (v := .int .i64 s2) rfl (fun _ _ _ h => h) (by rfl) (by assumption) (fun wS hSw => ?_) ?_
  · (try dsimp only at hSw); go_simp
  simp only [Act.put, List.setIfInBounds_toArray, List.set_cons_zero, List.set_cons_succ]
  refine wpAnyT_end ?_
  refine wpAnyH_listed #[true, true, true, true, false, true, true, false, false] (by kernel_rfl) ?_
  refine wpAnyH_ready (rs := [4]) (by kernel_rfl) (by simp) ?_
  refine AllReadyH.cons (o := ⟨some 114, Op.call { callee := Callee.value (Operand.func 42), args := #[Operand.tmp 111, Operand.tmp 113], argTypes := #[3, 3] }, 3, _, _, none⟩) rfl (fun K hK => ?_) AllReadyH.nil
  go_simp
  go_at_call 42
  refine (Has.call Y0 (rgcd_is s0 s1 gg H_hgg.out (by have := HS1.out.b0; omega) (by have := HS1.out.b1; omega) _)).mono ?_
  rintro e Wg1 ⟨rfl, Y1⟩
  go_wp2_with fail
  clear hHeld
  refine hK.out _ _ (ms2.out _ Y1) (fun hHeld => ?_)
  clear hK K
  try simp only [List.setIfInBounds_toArray, List.set_cons_zero, List.set_cons_succ]
  refine wpAnyH_listed #[true, true, true, true, true, true, true, false, false] (by kernel_rfl) ?_
  refine wpAnyH_ready (rs := [7]) (by kernel_rfl) (by simp) ?_
  refine AllReadyH.cons (o := ⟨some 117, Op.call { callee := Callee.value (Operand.func 42), args := #[Operand.tmp 114, Operand.tmp 116], argTypes := #[3, 3] }, 3, _, _, none⟩) rfl (fun K hK => ?_) AllReadyH.nil
  go_simp
  go_at_call 42
  refine (Has.call Y1 (rgcd_is gg s2 1 H_glow.out Hbg.out (by have := HS1.out.b2; omega) _)).mono ?_
  rintro e Wg2 ⟨rfl, Y2⟩
  go_wp2_with fail
  clear hHeld
  refine hK.out _ _ (ms2.out _ Y2) (fun hHeld => ?_)
  clear hK K
  try simp only [List.setIfInBounds_toArray, List.set_cons_zero, List.set_cons_succ]
  refine wpAnyH_listed #[true, true, true, true, true, true, true, true, false] (by kernel_rfl) ?_
  refine wpAnyT_begin [8] (by kernel_rfl) (by kernel_rfl) ?_
  refine wpAnyT_take (oi := ⟨some 18, Op.assign (Operand.tmp 117), 3, _, _, none⟩) (v := .int .i64 1) rfl (fun _ _ _ h => h) (by rfl) (by assumption) (fun wS hSw => ?_) ?_
  · (try dsimp only at hSw); go_simp
  simp only [Act.put, List.setIfInBounds_toArray, List.set_cons_zero, List.set_cons_succ]
  refine wpAnyT_end ?_
  refine wpAnyH_listed #[true, true, true, true, true, true, true, true, true] (by kernel_rfl) ?_
  refine wpAnyH_done (by kernel_rfl) ?_ _
  clear Y0 Y1 X11 hHeld ms2
  have a0 := Y2.tail.tail.tail.tail.tail.fact (.head _) (i := 0) rfl
  have a1 := Y2.tail.tail.tail.tail.tail.fact (.head _) (i := 1) rfl
  have a2 := Y2.tail.tail.tail.tail.tail.fact (.head _) (i := 2) rfl
  go_upto_region 14 with fail
  have Y3 := Y2.push [.int .i64 W0, .int .i64 W1, .int .i64 W2] 34
  change Has w _ (Wg2.alloc (.cells #[.int .i64 W0, .int .i64 W1, .int .i64 W2] 34)) at Y3
  generalize Wg2.alloc (.cells #[.int .i64 W0, .int .i64 W1, .int .i64 W2] 34) = y6 at *
  generalize Wg2.heap.size = Z4 at *
  clear a0 a1 a2 Y2
  have Y4 := Y3.sub (cs := [(Z4, [.int .i64 W0, .int .i64 W1, .int .i64 W2]), (Z3, [.int .i64 t0, .int .i64 t1, .int .i64 t2]), (Z2, [.int .i64 f0, .int .i64 f1, .int .i64 f2]), (Z1, [.int .i64 s0, .int .i64 s1, .int .i64 s2]), (N, [.int .i64 px, .int .i64 py]), (P, [.int .i64 A0, .int .i64 A1, .int .i64 A2]), (Q, [.int .i64 B0, .int .i64 B1, .int .i64 B2])]) (.cons_cons _ (.cons_cons _ (.cons_cons _ (.cons_cons _ (.cons _ (.cons_cons _ (.cons_cons _ (.cons_cons _ .slnil))))))))
  clear Y3
  have X0 := Y4.drew
  have ms3 := Lib.hid (show ∀ w', Has w [(Z4, [.int .i64 W0, .int .i64 W1, .int .i64 W2]), (Z3, [.int .i64 t0, .int .i64 t1, .int .i64 t2]), (Z2, [.int .i64 f0, .int .i64 f1, .int .i64 f2]), (Z1, [.int .i64 s0, .int .i64 s1, .int .i64 s2]), (N, [.int .i64 px, .int .i64 py]), (P, [.int .i64 A0, .int .i64 A1, .int .i64 A2]), (Q, [.int .i64 B0, .int .i64 B1, .int .i64 B2])] w' → (w'.cell? ⟨N, 0, none⟩ = some (.int .i64 px) ∧ w'.cell? ⟨N, 1, none⟩ = some (.int .i64 py) ∧ w'.cell? ⟨P, 0, none⟩ = some (.int .i64 A0) ∧ w'.cell? ⟨P, 1, none⟩ = some (.int .i64 A1) ∧ w'.cell? ⟨P, 2, none⟩ = some (.int .i64 A2) ∧ w'.cell? ⟨Q, 0, none⟩ = some (.int .i64 B0) ∧ w'.cell? ⟨Q, 1, none⟩ = some (.int .i64 B1) ∧ w'.cell? ⟨Q, 2, none⟩ = some (.int .i64 B2)) ∧ Has w [(Z4, [.int .i64 W0, .int .i64 W1, .int .i64 W2]), (Z3, [.int .i64 t0, .int .i64 t1, .int .i64 t2]), (Z2, [.int .i64 f0, .int .i64 f1, .int .i64 f2]), (Z1, [.int .i64 s0, .int .i64 s1, .int .i64 s2]), (N, [.int .i64 px, .int .i64 py]), (P, [.int .i64 A0, .int .i64 A1, .int .i64 A2]), (Q, [.int .i64 B0, .int .i64 B1, .int .i64 B2])] w' from fun w' h => ⟨⟨h.tail.tail.tail.tail.fact (.head _) (i := 0) rfl, h.tail.tail.tail.tail.fact (.head _) (i := 1) rfl, h.tail.tail.tail.tail.tail.fact (.head _) (i := 0) rfl, h.tail.tail.tail.tail.tail.fact (.head _) (i := 1) rfl, h.tail.tail.tail.tail.tail.fact (.head _) (i := 2) rfl, h.tail.tail.tail.tail.tail.tail.fact (.head _) (i := 0) rfl, h.tail.tail.tail.tail.tail.tail.fact (.head _) (i := 1) rfl, h.tail.tail.tail.tail.tail.tail.fact (.head _) (i := 2) rfl⟩, h⟩)
  refine wp_region_held_drew (S := (fun w' => (w'.cell? ⟨N, 0, none⟩ = some (.int .i64 px) ∧ w'.cell? ⟨N, 1, none⟩ = some (.int .i64 py) ∧ w'.cell? ⟨P, 0, none⟩ = some (.int .i64 A0) ∧ w'.cell? ⟨P, 1, none⟩ = some (.int .i64 A1) ∧ w'.cell? ⟨P, 2, none⟩ = some (.int .i64 A2) ∧ w'.cell? ⟨Q, 0, none⟩ = some (.int .i64 B0) ∧ w'.cell? ⟨Q, 1, none⟩ = some (.int .i64 B1) ∧ w'.cell? ⟨Q, 2, none⟩ = some (.int .i64 B2)) ∧ Has w [(Z4, [.int .i64 W0, .int .i64 W1, .int .i64 W2]), (Z3, [.int .i64 t0, .int .i64 t1, .int .i64 t2]), (Z2, [.int .i64 f0, .int .i64 f1, .int .i64 f2]), (Z1, [.int .i64 s0, .int .i64 s1, .int .i64 s2]), (N, [.int .i64 px, .int .i64 py]), (P, [.int .i64 A0, .int .i64 A1, .int .i64 A2]), (Q, [.int .i64 B0, .int .i64 B1, .int .i64 B2])] w')) (by kernel_rfl) (ms3.out _ X0) (fun hHeld => ?_)
  refine wpAnyT_begin [0, 2, 4, 5, 6, 7, 8, 9] (by kernel_rfl) (by kernel_rfl) ?_
  refine wpAnyT_take (oi := ⟨some 135, Op.load 28 (Operand.tmp 4), 28, _, _, none⟩) (v := .agg #[.int .i64 px, .int .i64 py]) rfl (fun _ _ _ h => h) (by rfl) (by assumption) (fun wS hSw => ?_) ?_
  · (try dsimp only at hSw); go_simp
  simp only [Act.put, List.setIfInBounds_toArray, List.set_cons_zero, List.set_cons_succ]
  refine wpAnyT_take (oi := ⟨some 137, Op.load 28 (Operand.tmp 4), 28, _, _, none⟩) (v := .agg #[.int .i64 px, .int .i64 py]) rfl (fun _ _ _ h => h) (by rfl) (by assumption) (fun wS hSw => ?_) ?_
  · (try dsimp only at hSw); go_simp
  simp only [Act.put, List.setIfInBounds_toArray, List.set_cons_zero, List.set_cons_succ]
  refine wpAnyT_take (oi := ⟨some 139, Op.fieldAddr 34 (Operand.tmp 8) 0, 0, _, _, none⟩) (v := .pointer (some ⟨P, 0, none⟩)) rfl (fun _ _ _ h => h) (by rfl) (by assumption) (fun wS hSw => ?_) ?_
  · (try dsimp only at hSw); go_simp
  simp only [Act.put, List.setIfInBounds_toArray, List.set_cons_zero, List.set_cons_succ]
  refine wpAnyT_take (oi := ⟨some 140, Op.load 3 (Operand.tmp 139), 3, _, _, none⟩) (v := .int .i64 A0) rfl (fun _ _ _ h => h) (by rfl) (by assumption) (fun wS hSw => ?_) ?_
  · (try dsimp only at hSw); go_simp
  simp only [Act.put, List.setIfInBounds_toArray, List.set_cons_zero, List.set_cons_succ]
  refine wpAnyT_take (oi := ⟨some 141, Op.binOp BinOp.rem 3 (Operand.tmp 140) (Operand.const (Value.int IntKind.i64 1000)) 3, 3, _, _, none⟩) (v := .int .i64 v0) rfl (fun _ _ _ h => h) (by rfl) (by assumption) (fun wS hSw => ?_) ?_
  · (try dsimp only at hSw); go_simp
  simp only [Act.put, List.setIfInBounds_toArray, List.set_cons_zero, List.set_cons_succ]
  refine wpAnyT_take (oi := ⟨some 142, Op.fieldAddr 34 (Operand.tmp 9) 1, 0, _, _, none⟩) (v := .pointer (some ⟨Q, 1, none⟩)) rfl (fun _ _ _ h => h) (by rfl) (by assumption) (fun wS hSw => ?_) ?_
  · (try dsimp only at hSw); go_simp
  simp only [Act.put, List.setIfInBounds_toArray, List.set_cons_zero, List.set_cons_succ]
  refine wpAnyT_take (oi := ⟨some 143, Op.load 3 (Operand.tmp 142), 3, _, _, none⟩) (v := .int .i64 B1) rfl (fun _ _ _ h => h) (by rfl) (by assumption) (fun wS hSw => ?_) ?_
  · (try dsimp only at hSw); go_simp
  simp only [Act.put, List.setIfInBounds_toArray, List.set_cons_zero, List.set_cons_succ]
  refine wpAnyT_take (oi := ⟨some 144, Op.binOp BinOp.rem 3 (Operand.tmp 143) (Operand.const (Value.int IntKind.i64 1000)) 3, 3, _, _, none⟩) (v := .int .i64 v1) rfl (fun _ _ _ h => h) (by rfl) (by assumption) (fun wS hSw => ?_) ?_
  · (try dsimp only at hSw); go_simp
  simp only [Act.put, List.setIfInBounds_toArray, List.set_cons_zero, List.set_cons_succ]
  refine wpAnyT_end ?_
  refine wpAnyH_listed #[true, false, true, false, true, true, true, true, true, true, false, false, false, false, false, false, false] (by kernel_rfl) ?_
  refine any_ind (X := St) (n := fun sx => (3 - sx.n) + (if sx.a.isSome then 0 else 1) + (if sx.b.isSome then 0 else 1) + (if sx.c.isSome then 0 else 1)) (l := fun sx => #[true, decide (1 ≤ sx.n), true, decide (2 ≤ sx.n), true, true, true, true, true, true, decide (3 ≤ sx.n), sx.a.isSome, sx.b.isSome, sx.c.isSome, false, false, false]) (u := fun sx t => (putc 136 (.agg #[.int .i64 px, .int .i64 py, .int .i64 1]) (decide (1 ≤ sx.n)) (putc 138 (.agg #[.int .i64 u0, .int .i64 u1]) (decide (2 ≤ sx.n)) (putc 145 (.agg #[.int .i64 v0, .int .i64 v1]) (decide (3 ≤ sx.n)) (putp 21 sx.a (putp 22 sx.b (putp 23 sx.c t))))))) (I := fun sx w' => sx.n ≤ 3 ∧ Has w (bl [.int .i64 0, .int .i64 0, .int .i64 0] sx.a (bl [.int .i64 0, .int .i64 0] sx.b (bl [.int .i64 0, .int .i64 0] sx.c [(Z4, [.int .i64 W0, .int .i64 W1, .int .i64 W2]), (Z3, [.int .i64 t0, .int .i64 t1, .int .i64 t2]), (Z2, [.int .i64 f0, .int .i64 f1, .int .i64 f2]), (Z1, [.int .i64 s0, .int .i64 s1, .int .i64 s2]), (N, [.int .i64 px, .int .i64 py]), (P, [.int .i64 A0, .int .i64 A1, .int .i64 A2]), (Q, [.int .i64 B0, .int .i64 B1, .int .i64 B2])]))) w') (m := 3) ⟨none, none, none, 0⟩ (by kernel_rfl) (by kernel_rfl) (by kernel_rfl) ⟨Nat.zero_le _, X0⟩ ?_ ?_
  · rintro k ih ⟨pa, pb, pc, c⟩ w2 hk ⟨hc, hH⟩
    clear hHeld
    obtain rfl | rfl | rfl | rfl : c = 0 ∨ c = 1 ∨ c = 2 ∨ c = 3 := by simp only at hc; omega
    · cases pa with
      | none =>
        cases pb with
        | none =>
          cases pc with
          | none =>
            simp only [Option.isSome, Bool.false_eq_true, if_false, if_true] at hk
            simp only [putc, putp, Act.put, decide_eq_true_eq, decide_true, decide_false, Nat.le_refl, Nat.reduceLeDiff, List.setIfInBounds_toArray, List.set_cons_zero, List.set_cons_succ]
            refine wpAnyH_listed #[true, false, true, false, true, true, true, true, true, true, false, false, false, false, false, false, false] (by kernel_rfl) ?_
            refine wpAnyH_ready (rs := [1, 11, 12, 13]) (by kernel_rfl) (by simp) ?_
            refine AllReadyH.cons (o := ⟨some 136, Op.call { callee := Callee.value (Operand.func 22), args := #[Operand.tmp 135], argTypes := #[28] }, 34, _, _, none⟩) rfl (fun K hK => ?_) (?_)
            · go_simp
              go_at_call 22
              refine (Has.call hH (spotOf_any px py _)).mono ?_
              rintro e W ⟨rfl, hC⟩
              go_wp2_with fail
              refine hK.out _ _ (ms3.out _ hC) (fun _ => ?_)
              exact wpAnyH_cast rfl (by kernel_rfl) (by kernel_rfl) (ih ⟨none, none, none, 1⟩ _ (by simp only [Option.isSome, Bool.false_eq_true, if_false, if_true]; omega) ⟨by simp, hC⟩)
            refine AllReadyH.cons (o := ⟨some 21, Op.alloc 34, 0, _, _, none⟩) rfl (fun K hK => ?_) (?_)
            · go_simp
              have hC := (hH.push [.int .i64 0, .int .i64 0, .int .i64 0] 34)
              change Has w _ (w2.alloc (.cells #[.int .i64 0, .int .i64 0, .int .i64 0] 34)) at hC
              generalize w2.alloc (.cells #[.int .i64 0, .int .i64 0, .int .i64 0] 34) = W at *
              generalize w2.heap.size = U1 at *
              have hC' : Has w ([(U1, [.int .i64 0, .int .i64 0, .int .i64 0])] ++ [(Z4, [.int .i64 W0, .int .i64 W1, .int .i64 W2]), (Z3, [.int .i64 t0, .int .i64 t1, .int .i64 t2]), (Z2, [.int .i64 f0, .int .i64 f1, .int .i64 f2]), (Z1, [.int .i64 s0, .int .i64 s1, .int .i64 s2]), (N, [.int .i64 px, .int .i64 py]), (P, [.int .i64 A0, .int .i64 A1, .int .i64 A2]), (Q, [.int .i64 B0, .int .i64 B1, .int .i64 B2])]) W := hC
              refine hK.out _ _ (ms3.out _ (hC.tail)) (fun _ => ?_)
              exact wpAnyH_cast rfl (by kernel_rfl) (by kernel_rfl) (ih ⟨some U1, none, none, 0⟩ _ (by simp only [Option.isSome, Bool.false_eq_true, if_false, if_true]; omega) ⟨by simp, hC⟩)
            refine AllReadyH.cons (o := ⟨some 22, Op.alloc 28, 0, _, _, none⟩) rfl (fun K hK => ?_) (?_)
            · go_simp
              have hC := (hH.push [.int .i64 0, .int .i64 0] 28)
              change Has w _ (w2.alloc (.cells #[.int .i64 0, .int .i64 0] 28)) at hC
              generalize w2.alloc (.cells #[.int .i64 0, .int .i64 0] 28) = W at *
              generalize w2.heap.size = U2 at *
              have hC' : Has w ([(U2, [.int .i64 0, .int .i64 0])] ++ [(Z4, [.int .i64 W0, .int .i64 W1, .int .i64 W2]), (Z3, [.int .i64 t0, .int .i64 t1, .int .i64 t2]), (Z2, [.int .i64 f0, .int .i64 f1, .int .i64 f2]), (Z1, [.int .i64 s0, .int .i64 s1, .int .i64 s2]), (N, [.int .i64 px, .int .i64 py]), (P, [.int .i64 A0, .int .i64 A1, .int .i64 A2]), (Q, [.int .i64 B0, .int .i64 B1, .int .i64 B2])]) W := hC
              refine hK.out _ _ (ms3.out _ (hC.tail)) (fun _ => ?_)
              exact wpAnyH_cast rfl (by kernel_rfl) (by kernel_rfl) (ih ⟨none, some U2, none, 0⟩ _ (by simp only [Option.isSome, Bool.false_eq_true, if_false, if_true]; omega) ⟨by simp, hC⟩)
            refine AllReadyH.cons (o := ⟨some 23, Op.alloc 28, 0, _, _, none⟩) rfl (fun K hK => ?_) (AllReadyH.nil)
            · go_simp
              have hC := (hH.push [.int .i64 0, .int .i64 0] 28)
              change Has w _ (w2.alloc (.cells #[.int .i64 0, .int .i64 0] 28)) at hC
              generalize w2.alloc (.cells #[.int .i64 0, .int .i64 0] 28) = W at *
              generalize w2.heap.size = U3 at *
              have hC' : Has w ([(U3, [.int .i64 0, .int .i64 0])] ++ [(Z4, [.int .i64 W0, .int .i64 W1, .int .i64 W2]), (Z3, [.int .i64 t0, .int .i64 t1, .int .i64 t2]), (Z2, [.int .i64 f0, .int .i64 f1, .int .i64 f2]), (Z1, [.int .i64 s0, .int .i64 s1, .int .i64 s2]), (N, [.int .i64 px, .int .i64 py]), (P, [.int .i64 A0, .int .i64 A1, .int .i64 A2]), (Q, [.int .i64 B0, .int .i64 B1, .int .i64 B2])]) W := hC
              refine hK.out _ _ (ms3.out _ (hC.tail)) (fun _ => ?_)
              exact wpAnyH_cast rfl (by kernel_rfl) (by kernel_rfl) (ih ⟨none, none, some U3, 0⟩ _ (by simp only [Option.isSome, Bool.false_eq_true, if_false, if_true]; omega) ⟨by simp, hC⟩)
          | some U3 =>
            simp only [Option.isSome, Bool.false_eq_true, if_false, if_true] at hk
            simp only [putc, putp, Act.put, decide_eq_true_eq, decide_true, decide_false, Nat.le_refl, Nat.reduceLeDiff, List.setIfInBounds_toArray, List.set_cons_zero, List.set_cons_succ]
            refine wpAnyH_listed #[true, false, true, false, true, true, true, true, true, true, false, false, false, true, false, false, false] (by kernel_rfl) ?_
            refine wpAnyH_ready (rs := [1, 11, 12]) (by kernel_rfl) (by simp) ?_
            refine AllReadyH.cons (o := ⟨some 136, Op.call { callee := Callee.value (Operand.func 22), args := #[Operand.tmp 135], argTypes := #[28] }, 34, _, _, none⟩) rfl (fun K hK => ?_) (?_)
            · go_simp
              go_at_call 22
              refine (Has.call hH (spotOf_any px py _)).mono ?_
              rintro e W ⟨rfl, hC⟩
              go_wp2_with fail
              refine hK.out _ _ (ms3.out _ hC.tail) (fun _ => ?_)
              exact wpAnyH_cast rfl (by kernel_rfl) (by kernel_rfl) (ih ⟨none, none, some U3, 1⟩ _ (by simp only [Option.isSome, Bool.false_eq_true, if_false, if_true]; omega) ⟨by simp, hC⟩)
            refine AllReadyH.cons (o := ⟨some 21, Op.alloc 34, 0, _, _, none⟩) rfl (fun K hK => ?_) (?_)
            · go_simp
              have hC := (hH.push [.int .i64 0, .int .i64 0, .int .i64 0] 34)
              change Has w _ (w2.alloc (.cells #[.int .i64 0, .int .i64 0, .int .i64 0] 34)) at hC
              generalize w2.alloc (.cells #[.int .i64 0, .int .i64 0, .int .i64 0] 34) = W at *
              generalize w2.heap.size = U1 at *
              have hC' : Has w ([(U1, [.int .i64 0, .int .i64 0, .int .i64 0]), (U3, [.int .i64 0, .int .i64 0])] ++ [(Z4, [.int .i64 W0, .int .i64 W1, .int .i64 W2]), (Z3, [.int .i64 t0, .int .i64 t1, .int .i64 t2]), (Z2, [.int .i64 f0, .int .i64 f1, .int .i64 f2]), (Z1, [.int .i64 s0, .int .i64 s1, .int .i64 s2]), (N, [.int .i64 px, .int .i64 py]), (P, [.int .i64 A0, .int .i64 A1, .int .i64 A2]), (Q, [.int .i64 B0, .int .i64 B1, .int .i64 B2])]) W := hC
              refine hK.out _ _ (ms3.out _ (hC.tail.tail)) (fun _ => ?_)
              exact wpAnyH_cast rfl (by kernel_rfl) (by kernel_rfl) (ih ⟨some U1, none, some U3, 0⟩ _ (by simp only [Option.isSome, Bool.false_eq_true, if_false, if_true]; omega) ⟨by simp, hC⟩)
            refine AllReadyH.cons (o := ⟨some 22, Op.alloc 28, 0, _, _, none⟩) rfl (fun K hK => ?_) (AllReadyH.nil)
            · go_simp
              have hC := (hH.push [.int .i64 0, .int .i64 0] 28)
              change Has w _ (w2.alloc (.cells #[.int .i64 0, .int .i64 0] 28)) at hC
              generalize w2.alloc (.cells #[.int .i64 0, .int .i64 0] 28) = W at *
              generalize w2.heap.size = U2 at *
              have hC' : Has w ([(U2, [.int .i64 0, .int .i64 0]), (U3, [.int .i64 0, .int .i64 0])] ++ [(Z4, [.int .i64 W0, .int .i64 W1, .int .i64 W2]), (Z3, [.int .i64 t0, .int .i64 t1, .int .i64 t2]), (Z2, [.int .i64 f0, .int .i64 f1, .int .i64 f2]), (Z1, [.int .i64 s0, .int .i64 s1, .int .i64 s2]), (N, [.int .i64 px, .int .i64 py]), (P, [.int .i64 A0, .int .i64 A1, .int .i64 A2]), (Q, [.int .i64 B0, .int .i64 B1, .int .i64 B2])]) W := hC
              refine hK.out _ _ (ms3.out _ (hC.tail.tail)) (fun _ => ?_)
              exact wpAnyH_cast rfl (by kernel_rfl) (by kernel_rfl) (ih ⟨none, some U2, some U3, 0⟩ _ (by simp only [Option.isSome, Bool.false_eq_true, if_false, if_true]; omega) ⟨by simp, hC⟩)
        | some U2 =>
          cases pc with
          | none =>
            simp only [Option.isSome, Bool.false_eq_true, if_false, if_true] at hk
            simp only [putc, putp, Act.put, decide_eq_true_eq, decide_true, decide_false, Nat.le_refl, Nat.reduceLeDiff, List.setIfInBounds_toArray, List.set_cons_zero, List.set_cons_succ]
            refine wpAnyH_listed #[true, false, true, false, true, true, true, true, true, true, false, false, true, false, false, false, false] (by kernel_rfl) ?_
            refine wpAnyH_ready (rs := [1, 11, 13]) (by kernel_rfl) (by simp) ?_
            refine AllReadyH.cons (o := ⟨some 136, Op.call { callee := Callee.value (Operand.func 22), args := #[Operand.tmp 135], argTypes := #[28] }, 34, _, _, none⟩) rfl (fun K hK => ?_) (?_)
            · go_simp
              go_at_call 22
              refine (Has.call hH (spotOf_any px py _)).mono ?_
              rintro e W ⟨rfl, hC⟩
              go_wp2_with fail
              refine hK.out _ _ (ms3.out _ hC.tail) (fun _ => ?_)
              exact wpAnyH_cast rfl (by kernel_rfl) (by kernel_rfl) (ih ⟨none, some U2, none, 1⟩ _ (by simp only [Option.isSome, Bool.false_eq_true, if_false, if_true]; omega) ⟨by simp, hC⟩)
            refine AllReadyH.cons (o := ⟨some 21, Op.alloc 34, 0, _, _, none⟩) rfl (fun K hK => ?_) (?_)
            · go_simp
              have hC := (hH.push [.int .i64 0, .int .i64 0, .int .i64 0] 34)
              change Has w _ (w2.alloc (.cells #[.int .i64 0, .int .i64 0, .int .i64 0] 34)) at hC
              generalize w2.alloc (.cells #[.int .i64 0, .int .i64 0, .int .i64 0] 34) = W at *
              generalize w2.heap.size = U1 at *
              have hC' : Has w ([(U1, [.int .i64 0, .int .i64 0, .int .i64 0]), (U2, [.int .i64 0, .int .i64 0])] ++ [(Z4, [.int .i64 W0, .int .i64 W1, .int .i64 W2]), (Z3, [.int .i64 t0, .int .i64 t1, .int .i64 t2]), (Z2, [.int .i64 f0, .int .i64 f1, .int .i64 f2]), (Z1, [.int .i64 s0, .int .i64 s1, .int .i64 s2]), (N, [.int .i64 px, .int .i64 py]), (P, [.int .i64 A0, .int .i64 A1, .int .i64 A2]), (Q, [.int .i64 B0, .int .i64 B1, .int .i64 B2])]) W := hC
              refine hK.out _ _ (ms3.out _ (hC.tail.tail)) (fun _ => ?_)
              exact wpAnyH_cast rfl (by kernel_rfl) (by kernel_rfl) (ih ⟨some U1, some U2, none, 0⟩ _ (by simp only [Option.isSome, Bool.false_eq_true, if_false, if_true]; omega) ⟨by simp, hC⟩)
            refine AllReadyH.cons (o := ⟨some 23, Op.alloc 28, 0, _, _, none⟩) rfl (fun K hK => ?_) (AllReadyH.nil)
            · go_simp
              have hC := (hH.push [.int .i64 0, .int .i64 0] 28).swap
              change Has w _ (w2.alloc (.cells #[.int .i64 0, .int .i64 0] 28)) at hC
              generalize w2.alloc (.cells #[.int .i64 0, .int .i64 0] 28) = W at *
              generalize w2.heap.size = U3 at *
              have hC' : Has w ([(U2, [.int .i64 0, .int .i64 0]), (U3, [.int .i64 0, .int .i64 0])] ++ [(Z4, [.int .i64 W0, .int .i64 W1, .int .i64 W2]), (Z3, [.int .i64 t0, .int .i64 t1, .int .i64 t2]), (Z2, [.int .i64 f0, .int .i64 f1, .int .i64 f2]), (Z1, [.int .i64 s0, .int .i64 s1, .int .i64 s2]), (N, [.int .i64 px, .int .i64 py]), (P, [.int .i64 A0, .int .i64 A1, .int .i64 A2]), (Q, [.int .i64 B0, .int .i64 B1, .int .i64 B2])]) W := hC
              refine hK.out _ _ (ms3.out _ (hC.tail.tail)) (fun _ => ?_)
              exact wpAnyH_cast rfl (by kernel_rfl) (by kernel_rfl) (ih ⟨none, some U2, some U3, 0⟩ _ (by simp only [Option.isSome, Bool.false_eq_true, if_false, if_true]; omega) ⟨by simp, hC⟩)
          | some U3 =>
            simp only [Option.isSome, Bool.false_eq_true, if_false, if_true] at hk
            simp only [putc, putp, Act.put, decide_eq_true_eq, decide_true, decide_false, Nat.le_refl, Nat.reduceLeDiff, List.setIfInBounds_toArray, List.set_cons_zero, List.set_cons_succ]
            refine wpAnyH_listed #[true, false, true, false, true, true, true, true, true, true, false, false, true, true, false, false, false] (by kernel_rfl) ?_
            refine wpAnyH_ready (rs := [1, 11]) (by kernel_rfl) (by simp) ?_
            refine AllReadyH.cons (o := ⟨some 136, Op.call { callee := Callee.value (Operand.func 22), args := #[Operand.tmp 135], argTypes := #[28] }, 34, _, _, none⟩) rfl (fun K hK => ?_) (?_)
            · go_simp
              go_at_call 22
              refine (Has.call hH (spotOf_any px py _)).mono ?_
              rintro e W ⟨rfl, hC⟩
              go_wp2_with fail
              refine hK.out _ _ (ms3.out _ hC.tail.tail) (fun _ => ?_)
              exact wpAnyH_cast rfl (by kernel_rfl) (by kernel_rfl) (ih ⟨none, some U2, some U3, 1⟩ _ (by simp only [Option.isSome, Bool.false_eq_true, if_false, if_true]; omega) ⟨by simp, hC⟩)
            refine AllReadyH.cons (o := ⟨some 21, Op.alloc 34, 0, _, _, none⟩) rfl (fun K hK => ?_) (AllReadyH.nil)
            · go_simp
              have hC := (hH.push [.int .i64 0, .int .i64 0, .int .i64 0] 34)
              change Has w _ (w2.alloc (.cells #[.int .i64 0, .int .i64 0, .int .i64 0] 34)) at hC
              generalize w2.alloc (.cells #[.int .i64 0, .int .i64 0, .int .i64 0] 34) = W at *
              generalize w2.heap.size = U1 at *
              have hC' : Has w ([(U1, [.int .i64 0, .int .i64 0, .int .i64 0]), (U2, [.int .i64 0, .int .i64 0]), (U3, [.int .i64 0, .int .i64 0])] ++ [(Z4, [.int .i64 W0, .int .i64 W1, .int .i64 W2]), (Z3, [.int .i64 t0, .int .i64 t1, .int .i64 t2]), (Z2, [.int .i64 f0, .int .i64 f1, .int .i64 f2]), (Z1, [.int .i64 s0, .int .i64 s1, .int .i64 s2]), (N, [.int .i64 px, .int .i64 py]), (P, [.int .i64 A0, .int .i64 A1, .int .i64 A2]), (Q, [.int .i64 B0, .int .i64 B1, .int .i64 B2])]) W := hC
              refine hK.out _ _ (ms3.out _ (hC.tail.tail.tail)) (fun _ => ?_)
              exact wpAnyH_cast rfl (by kernel_rfl) (by kernel_rfl) (ih ⟨some U1, some U2, some U3, 0⟩ _ (by simp only [Option.isSome, Bool.false_eq_true, if_false, if_true]; omega) ⟨by simp, hC⟩)
      | some U1 =>
        cases pb with
        | none =>
          cases pc with
          | none =>
            simp only [Option.isSome, Bool.false_eq_true, if_false, if_true] at hk
            simp only [putc, putp, Act.put, decide_eq_true_eq, decide_true, decide_false, Nat.le_refl, Nat.reduceLeDiff, List.setIfInBounds_toArray, List.set_cons_zero, List.set_cons_succ]
            refine wpAnyH_listed #[true, false, true, false, true, true, true, true, true, true, false, true, false, false, false, false, false] (by kernel_rfl) ?_
            refine wpAnyH_ready (rs := [1, 12, 13]) (by kernel_rfl) (by simp) ?_
            refine AllReadyH.cons (o := ⟨some 136, Op.call { callee := Callee.value (Operand.func 22), args := #[Operand.tmp 135], argTypes := #[28] }, 34, _, _, none⟩) rfl (fun K hK => ?_) (?_)
            · go_simp
              go_at_call 22
              refine (Has.call hH (spotOf_any px py _)).mono ?_
              rintro e W ⟨rfl, hC⟩
              go_wp2_with fail
              refine hK.out _ _ (ms3.out _ hC.tail) (fun _ => ?_)
              exact wpAnyH_cast rfl (by kernel_rfl) (by kernel_rfl) (ih ⟨some U1, none, none, 1⟩ _ (by simp only [Option.isSome, Bool.false_eq_true, if_false, if_true]; omega) ⟨by simp, hC⟩)
            refine AllReadyH.cons (o := ⟨some 22, Op.alloc 28, 0, _, _, none⟩) rfl (fun K hK => ?_) (?_)
            · go_simp
              have hC := (hH.push [.int .i64 0, .int .i64 0] 28).swap
              change Has w _ (w2.alloc (.cells #[.int .i64 0, .int .i64 0] 28)) at hC
              generalize w2.alloc (.cells #[.int .i64 0, .int .i64 0] 28) = W at *
              generalize w2.heap.size = U2 at *
              have hC' : Has w ([(U1, [.int .i64 0, .int .i64 0, .int .i64 0]), (U2, [.int .i64 0, .int .i64 0])] ++ [(Z4, [.int .i64 W0, .int .i64 W1, .int .i64 W2]), (Z3, [.int .i64 t0, .int .i64 t1, .int .i64 t2]), (Z2, [.int .i64 f0, .int .i64 f1, .int .i64 f2]), (Z1, [.int .i64 s0, .int .i64 s1, .int .i64 s2]), (N, [.int .i64 px, .int .i64 py]), (P, [.int .i64 A0, .int .i64 A1, .int .i64 A2]), (Q, [.int .i64 B0, .int .i64 B1, .int .i64 B2])]) W := hC
              refine hK.out _ _ (ms3.out _ (hC.tail.tail)) (fun _ => ?_)
              exact wpAnyH_cast rfl (by kernel_rfl) (by kernel_rfl) (ih ⟨some U1, some U2, none, 0⟩ _ (by simp only [Option.isSome, Bool.false_eq_true, if_false, if_true]; omega) ⟨by simp, hC⟩)
            refine AllReadyH.cons (o := ⟨some 23, Op.alloc 28, 0, _, _, none⟩) rfl (fun K hK => ?_) (AllReadyH.nil)
            · go_simp
              have hC := (hH.push [.int .i64 0, .int .i64 0] 28).swap
              change Has w _ (w2.alloc (.cells #[.int .i64 0, .int .i64 0] 28)) at hC
              generalize w2.alloc (.cells #[.int .i64 0, .int .i64 0] 28) = W at *
              generalize w2.heap.size = U3 at *
              have hC' : Has w ([(U1, [.int .i64 0, .int .i64 0, .int .i64 0]), (U3, [.int .i64 0, .int .i64 0])] ++ [(Z4, [.int .i64 W0, .int .i64 W1, .int .i64 W2]), (Z3, [.int .i64 t0, .int .i64 t1, .int .i64 t2]), (Z2, [.int .i64 f0, .int .i64 f1, .int .i64 f2]), (Z1, [.int .i64 s0, .int .i64 s1, .int .i64 s2]), (N, [.int .i64 px, .int .i64 py]), (P, [.int .i64 A0, .int .i64 A1, .int .i64 A2]), (Q, [.int .i64 B0, .int .i64 B1, .int .i64 B2])]) W := hC
              refine hK.out _ _ (ms3.out _ (hC.tail.tail)) (fun _ => ?_)
              exact wpAnyH_cast rfl (by kernel_rfl) (by kernel_rfl) (ih ⟨some U1, none, some U3, 0⟩ _ (by simp only [Option.isSome, Bool.false_eq_true, if_false, if_true]; omega) ⟨by simp, hC⟩)
          | some U3 =>
            simp only [Option.isSome, Bool.false_eq_true, if_false, if_true] at hk
            simp only [putc, putp, Act.put, decide_eq_true_eq, decide_true, decide_false, Nat.le_refl, Nat.reduceLeDiff, List.setIfInBounds_toArray, List.set_cons_zero, List.set_cons_succ]
            refine wpAnyH_listed #[true, false, true, false, true, true, true, true, true, true, false, true, false, true, false, false, false] (by kernel_rfl) ?_
            refine wpAnyH_ready (rs := [1, 12]) (by kernel_rfl) (by simp) ?_
            refine AllReadyH.cons (o := ⟨some 136, Op.call { callee := Callee.value (Operand.func 22), args := #[Operand.tmp 135], argTypes := #[28] }, 34, _, _, none⟩) rfl (fun K hK => ?_) (?_)
            · go_simp
              go_at_call 22
              refine (Has.call hH (spotOf_any px py _)).mono ?_
              rintro e W ⟨rfl, hC⟩
              go_wp2_with fail
              refine hK.out _ _ (ms3.out _ hC.tail.tail) (fun _ => ?_)
              exact wpAnyH_cast rfl (by kernel_rfl) (by kernel_rfl) (ih ⟨some U1, none, some U3, 1⟩ _ (by simp only [Option.isSome, Bool.false_eq_true, if_false, if_true]; omega) ⟨by simp, hC⟩)
            refine AllReadyH.cons (o := ⟨some 22, Op.alloc 28, 0, _, _, none⟩) rfl (fun K hK => ?_) (AllReadyH.nil)
            · go_simp
              have hC := (hH.push [.int .i64 0, .int .i64 0] 28).swap
              change Has w _ (w2.alloc (.cells #[.int .i64 0, .int .i64 0] 28)) at hC
              generalize w2.alloc (.cells #[.int .i64 0, .int .i64 0] 28) = W at *
              generalize w2.heap.size = U2 at *
              have hC' : Has w ([(U1, [.int .i64 0, .int .i64 0, .int .i64 0]), (U2, [.int .i64 0, .int .i64 0]), (U3, [.int .i64 0, .int .i64 0])] ++ [(Z4, [.int .i64 W0, .int .i64 W1, .int .i64 W2]), (Z3, [.int .i64 t0, .int .i64 t1, .int .i64 t2]), (Z2, [.int .i64 f0, .int .i64 f1, .int .i64 f2]), (Z1, [.int .i64 s0, .int .i64 s1, .int .i64 s2]), (N, [.int .i64 px, .int .i64 py]), (P, [.int .i64 A0, .int .i64 A1, .int .i64 A2]), (Q, [.int .i64 B0, .int .i64 B1, .int .i64 B2])]) W := hC
              refine hK.out _ _ (ms3.out _ (hC.tail.tail.tail)) (fun _ => ?_)
              exact wpAnyH_cast rfl (by kernel_rfl) (by kernel_rfl) (ih ⟨some U1, some U2, some U3, 0⟩ _ (by simp only [Option.isSome, Bool.false_eq_true, if_false, if_true]; omega) ⟨by simp, hC⟩)
        | some U2 =>
          cases pc with
          | none =>
            simp only [Option.isSome, Bool.false_eq_true, if_false, if_true] at hk
            simp only [putc, putp, Act.put, decide_eq_true_eq, decide_true, decide_false, Nat.le_refl, Nat.reduceLeDiff, List.setIfInBounds_toArray, List.set_cons_zero, List.set_cons_succ]
            refine wpAnyH_listed #[true, false, true, false, true, true, true, true, true, true, false, true, true, false, false, false, false] (by kernel_rfl) ?_
            refine wpAnyH_ready (rs := [1, 13]) (by kernel_rfl) (by simp) ?_
            refine AllReadyH.cons (o := ⟨some 136, Op.call { callee := Callee.value (Operand.func 22), args := #[Operand.tmp 135], argTypes := #[28] }, 34, _, _, none⟩) rfl (fun K hK => ?_) (?_)
            · go_simp
              go_at_call 22
              refine (Has.call hH (spotOf_any px py _)).mono ?_
              rintro e W ⟨rfl, hC⟩
              go_wp2_with fail
              refine hK.out _ _ (ms3.out _ hC.tail.tail) (fun _ => ?_)
              exact wpAnyH_cast rfl (by kernel_rfl) (by kernel_rfl) (ih ⟨some U1, some U2, none, 1⟩ _ (by simp only [Option.isSome, Bool.false_eq_true, if_false, if_true]; omega) ⟨by simp, hC⟩)
            refine AllReadyH.cons (o := ⟨some 23, Op.alloc 28, 0, _, _, none⟩) rfl (fun K hK => ?_) (AllReadyH.nil)
            · go_simp
              have hC := (hH.push [.int .i64 0, .int .i64 0] 28).third.third
              change Has w _ (w2.alloc (.cells #[.int .i64 0, .int .i64 0] 28)) at hC
              generalize w2.alloc (.cells #[.int .i64 0, .int .i64 0] 28) = W at *
              generalize w2.heap.size = U3 at *
              have hC' : Has w ([(U1, [.int .i64 0, .int .i64 0, .int .i64 0]), (U2, [.int .i64 0, .int .i64 0]), (U3, [.int .i64 0, .int .i64 0])] ++ [(Z4, [.int .i64 W0, .int .i64 W1, .int .i64 W2]), (Z3, [.int .i64 t0, .int .i64 t1, .int .i64 t2]), (Z2, [.int .i64 f0, .int .i64 f1, .int .i64 f2]), (Z1, [.int .i64 s0, .int .i64 s1, .int .i64 s2]), (N, [.int .i64 px, .int .i64 py]), (P, [.int .i64 A0, .int .i64 A1, .int .i64 A2]), (Q, [.int .i64 B0, .int .i64 B1, .int .i64 B2])]) W := hC
              refine hK.out _ _ (ms3.out _ (hC.tail.tail.tail)) (fun _ => ?_)
              exact wpAnyH_cast rfl (by kernel_rfl) (by kernel_rfl) (ih ⟨some U1, some U2, some U3, 0⟩ _ (by simp only [Option.isSome, Bool.false_eq_true, if_false, if_true]; omega) ⟨by simp, hC⟩)
          | some U3 =>
            simp only [Option.isSome, Bool.false_eq_true, if_false, if_true] at hk
            simp only [putc, putp, Act.put, decide_eq_true_eq, decide_true, decide_false, Nat.le_refl, Nat.reduceLeDiff, List.setIfInBounds_toArray, List.set_cons_zero, List.set_cons_succ]
            refine wpAnyH_listed #[true, false, true, false, true, true, true, true, true, true, false, true, true, true, false, false, false] (by kernel_rfl) ?_
            refine wpAnyH_ready (rs := [1]) (by kernel_rfl) (by simp) ?_
            refine AllReadyH.cons (o := ⟨some 136, Op.call { callee := Callee.value (Operand.func 22), args := #[Operand.tmp 135], argTypes := #[28] }, 34, _, _, none⟩) rfl (fun K hK => ?_) (AllReadyH.nil)
            · go_simp
              go_at_call 22
              refine (Has.call hH (spotOf_any px py _)).mono ?_
              rintro e W ⟨rfl, hC⟩
              go_wp2_with fail
              refine hK.out _ _ (ms3.out _ hC.tail.tail.tail) (fun _ => ?_)
              exact wpAnyH_cast rfl (by kernel_rfl) (by kernel_rfl) (ih ⟨some U1, some U2, some U3, 1⟩ _ (by simp only [Option.isSome, Bool.false_eq_true, if_false, if_true]; omega) ⟨by simp, hC⟩)
    · cases pa with
      | none =>
        cases pb with
        | none =>
          cases pc with
          | none =>
            simp only [Option.isSome, Bool.false_eq_true, if_false, if_true] at hk
            simp only [putc, putp, Act.put, decide_eq_true_eq, decide_true, decide_false, Nat.le_refl, Nat.reduceLeDiff, List.setIfInBounds_toArray, List.set_cons_zero, List.set_cons_succ]
            refine wpAnyH_listed #[true, true, true, false, true, true, true, true, true, true, false, false, false, false, false, false, false] (by kernel_rfl) ?_
            refine wpAnyH_ready (rs := [3, 11, 12, 13]) (by kernel_rfl) (by simp) ?_
            refine AllReadyH.cons (o := ⟨some 138, Op.call { callee := Callee.value (Operand.func 28), args := #[Operand.tmp 137], argTypes := #[28] }, 28, _, _, none⟩) rfl (fun K hK => ?_) (?_)
            · go_simp
              go_at_call 28
              refine (Has.call hH (small_is px py u0 u1 H_hu0.out H_hu1.out _)).mono ?_
              rintro e W ⟨rfl, hC⟩
              go_wp2_with fail
              refine hK.out _ _ (ms3.out _ hC) (fun _ => ?_)
              exact wpAnyH_cast rfl (by kernel_rfl) (by kernel_rfl) (ih ⟨none, none, none, 2⟩ _ (by simp only [Option.isSome, Bool.false_eq_true, if_false, if_true]; omega) ⟨by simp, hC⟩)
            refine AllReadyH.cons (o := ⟨some 21, Op.alloc 34, 0, _, _, none⟩) rfl (fun K hK => ?_) (?_)
            · go_simp
              have hC := (hH.push [.int .i64 0, .int .i64 0, .int .i64 0] 34)
              change Has w _ (w2.alloc (.cells #[.int .i64 0, .int .i64 0, .int .i64 0] 34)) at hC
              generalize w2.alloc (.cells #[.int .i64 0, .int .i64 0, .int .i64 0] 34) = W at *
              generalize w2.heap.size = U1 at *
              have hC' : Has w ([(U1, [.int .i64 0, .int .i64 0, .int .i64 0])] ++ [(Z4, [.int .i64 W0, .int .i64 W1, .int .i64 W2]), (Z3, [.int .i64 t0, .int .i64 t1, .int .i64 t2]), (Z2, [.int .i64 f0, .int .i64 f1, .int .i64 f2]), (Z1, [.int .i64 s0, .int .i64 s1, .int .i64 s2]), (N, [.int .i64 px, .int .i64 py]), (P, [.int .i64 A0, .int .i64 A1, .int .i64 A2]), (Q, [.int .i64 B0, .int .i64 B1, .int .i64 B2])]) W := hC
              refine hK.out _ _ (ms3.out _ (hC.tail)) (fun _ => ?_)
              exact wpAnyH_cast rfl (by kernel_rfl) (by kernel_rfl) (ih ⟨some U1, none, none, 1⟩ _ (by simp only [Option.isSome, Bool.false_eq_true, if_false, if_true]; omega) ⟨by simp, hC⟩)
            refine AllReadyH.cons (o := ⟨some 22, Op.alloc 28, 0, _, _, none⟩) rfl (fun K hK => ?_) (?_)
            · go_simp
              have hC := (hH.push [.int .i64 0, .int .i64 0] 28)
              change Has w _ (w2.alloc (.cells #[.int .i64 0, .int .i64 0] 28)) at hC
              generalize w2.alloc (.cells #[.int .i64 0, .int .i64 0] 28) = W at *
              generalize w2.heap.size = U2 at *
              have hC' : Has w ([(U2, [.int .i64 0, .int .i64 0])] ++ [(Z4, [.int .i64 W0, .int .i64 W1, .int .i64 W2]), (Z3, [.int .i64 t0, .int .i64 t1, .int .i64 t2]), (Z2, [.int .i64 f0, .int .i64 f1, .int .i64 f2]), (Z1, [.int .i64 s0, .int .i64 s1, .int .i64 s2]), (N, [.int .i64 px, .int .i64 py]), (P, [.int .i64 A0, .int .i64 A1, .int .i64 A2]), (Q, [.int .i64 B0, .int .i64 B1, .int .i64 B2])]) W := hC
              refine hK.out _ _ (ms3.out _ (hC.tail)) (fun _ => ?_)
              exact wpAnyH_cast rfl (by kernel_rfl) (by kernel_rfl) (ih ⟨none, some U2, none, 1⟩ _ (by simp only [Option.isSome, Bool.false_eq_true, if_false, if_true]; omega) ⟨by simp, hC⟩)
            refine AllReadyH.cons (o := ⟨some 23, Op.alloc 28, 0, _, _, none⟩) rfl (fun K hK => ?_) (AllReadyH.nil)
            · go_simp
              have hC := (hH.push [.int .i64 0, .int .i64 0] 28)
              change Has w _ (w2.alloc (.cells #[.int .i64 0, .int .i64 0] 28)) at hC
              generalize w2.alloc (.cells #[.int .i64 0, .int .i64 0] 28) = W at *
              generalize w2.heap.size = U3 at *
              have hC' : Has w ([(U3, [.int .i64 0, .int .i64 0])] ++ [(Z4, [.int .i64 W0, .int .i64 W1, .int .i64 W2]), (Z3, [.int .i64 t0, .int .i64 t1, .int .i64 t2]), (Z2, [.int .i64 f0, .int .i64 f1, .int .i64 f2]), (Z1, [.int .i64 s0, .int .i64 s1, .int .i64 s2]), (N, [.int .i64 px, .int .i64 py]), (P, [.int .i64 A0, .int .i64 A1, .int .i64 A2]), (Q, [.int .i64 B0, .int .i64 B1, .int .i64 B2])]) W := hC
              refine hK.out _ _ (ms3.out _ (hC.tail)) (fun _ => ?_)
              exact wpAnyH_cast rfl (by kernel_rfl) (by kernel_rfl) (ih ⟨none, none, some U3, 1⟩ _ (by simp only [Option.isSome, Bool.false_eq_true, if_false, if_true]; omega) ⟨by simp, hC⟩)
          | some U3 =>
            simp only [Option.isSome, Bool.false_eq_true, if_false, if_true] at hk
            simp only [putc, putp, Act.put, decide_eq_true_eq, decide_true, decide_false, Nat.le_refl, Nat.reduceLeDiff, List.setIfInBounds_toArray, List.set_cons_zero, List.set_cons_succ]
            refine wpAnyH_listed #[true, true, true, false, true, true, true, true, true, true, false, false, false, true, false, false, false] (by kernel_rfl) ?_
            refine wpAnyH_ready (rs := [3, 11, 12]) (by kernel_rfl) (by simp) ?_
            refine AllReadyH.cons (o := ⟨some 138, Op.call { callee := Callee.value (Operand.func 28), args := #[Operand.tmp 137], argTypes := #[28] }, 28, _, _, none⟩) rfl (fun K hK => ?_) (?_)
            · go_simp
              go_at_call 28
              refine (Has.call hH (small_is px py u0 u1 H_hu0.out H_hu1.out _)).mono ?_
              rintro e W ⟨rfl, hC⟩
              go_wp2_with fail
              refine hK.out _ _ (ms3.out _ hC.tail) (fun _ => ?_)
              exact wpAnyH_cast rfl (by kernel_rfl) (by kernel_rfl) (ih ⟨none, none, some U3, 2⟩ _ (by simp only [Option.isSome, Bool.false_eq_true, if_false, if_true]; omega) ⟨by simp, hC⟩)
            refine AllReadyH.cons (o := ⟨some 21, Op.alloc 34, 0, _, _, none⟩) rfl (fun K hK => ?_) (?_)
            · go_simp
              have hC := (hH.push [.int .i64 0, .int .i64 0, .int .i64 0] 34)
              change Has w _ (w2.alloc (.cells #[.int .i64 0, .int .i64 0, .int .i64 0] 34)) at hC
              generalize w2.alloc (.cells #[.int .i64 0, .int .i64 0, .int .i64 0] 34) = W at *
              generalize w2.heap.size = U1 at *
              have hC' : Has w ([(U1, [.int .i64 0, .int .i64 0, .int .i64 0]), (U3, [.int .i64 0, .int .i64 0])] ++ [(Z4, [.int .i64 W0, .int .i64 W1, .int .i64 W2]), (Z3, [.int .i64 t0, .int .i64 t1, .int .i64 t2]), (Z2, [.int .i64 f0, .int .i64 f1, .int .i64 f2]), (Z1, [.int .i64 s0, .int .i64 s1, .int .i64 s2]), (N, [.int .i64 px, .int .i64 py]), (P, [.int .i64 A0, .int .i64 A1, .int .i64 A2]), (Q, [.int .i64 B0, .int .i64 B1, .int .i64 B2])]) W := hC
              refine hK.out _ _ (ms3.out _ (hC.tail.tail)) (fun _ => ?_)
              exact wpAnyH_cast rfl (by kernel_rfl) (by kernel_rfl) (ih ⟨some U1, none, some U3, 1⟩ _ (by simp only [Option.isSome, Bool.false_eq_true, if_false, if_true]; omega) ⟨by simp, hC⟩)
            refine AllReadyH.cons (o := ⟨some 22, Op.alloc 28, 0, _, _, none⟩) rfl (fun K hK => ?_) (AllReadyH.nil)
            · go_simp
              have hC := (hH.push [.int .i64 0, .int .i64 0] 28)
              change Has w _ (w2.alloc (.cells #[.int .i64 0, .int .i64 0] 28)) at hC
              generalize w2.alloc (.cells #[.int .i64 0, .int .i64 0] 28) = W at *
              generalize w2.heap.size = U2 at *
              have hC' : Has w ([(U2, [.int .i64 0, .int .i64 0]), (U3, [.int .i64 0, .int .i64 0])] ++ [(Z4, [.int .i64 W0, .int .i64 W1, .int .i64 W2]), (Z3, [.int .i64 t0, .int .i64 t1, .int .i64 t2]), (Z2, [.int .i64 f0, .int .i64 f1, .int .i64 f2]), (Z1, [.int .i64 s0, .int .i64 s1, .int .i64 s2]), (N, [.int .i64 px, .int .i64 py]), (P, [.int .i64 A0, .int .i64 A1, .int .i64 A2]), (Q, [.int .i64 B0, .int .i64 B1, .int .i64 B2])]) W := hC
              refine hK.out _ _ (ms3.out _ (hC.tail.tail)) (fun _ => ?_)
              exact wpAnyH_cast rfl (by kernel_rfl) (by kernel_rfl) (ih ⟨none, some U2, some U3, 1⟩ _ (by simp only [Option.isSome, Bool.false_eq_true, if_false, if_true]; omega) ⟨by simp, hC⟩)
        | some U2 =>
          cases pc with
          | none =>
            simp only [Option.isSome, Bool.false_eq_true, if_false, if_true] at hk
            simp only [putc, putp, Act.put, decide_eq_true_eq, decide_true, decide_false, Nat.le_refl, Nat.reduceLeDiff, List.setIfInBounds_toArray, List.set_cons_zero, List.set_cons_succ]
            refine wpAnyH_listed #[true, true, true, false, true, true, true, true, true, true, false, false, true, false, false, false, false] (by kernel_rfl) ?_
            refine wpAnyH_ready (rs := [3, 11, 13]) (by kernel_rfl) (by simp) ?_
            refine AllReadyH.cons (o := ⟨some 138, Op.call { callee := Callee.value (Operand.func 28), args := #[Operand.tmp 137], argTypes := #[28] }, 28, _, _, none⟩) rfl (fun K hK => ?_) (?_)
            · go_simp
              go_at_call 28
              refine (Has.call hH (small_is px py u0 u1 H_hu0.out H_hu1.out _)).mono ?_
              rintro e W ⟨rfl, hC⟩
              go_wp2_with fail
              refine hK.out _ _ (ms3.out _ hC.tail) (fun _ => ?_)
              exact wpAnyH_cast rfl (by kernel_rfl) (by kernel_rfl) (ih ⟨none, some U2, none, 2⟩ _ (by simp only [Option.isSome, Bool.false_eq_true, if_false, if_true]; omega) ⟨by simp, hC⟩)
            refine AllReadyH.cons (o := ⟨some 21, Op.alloc 34, 0, _, _, none⟩) rfl (fun K hK => ?_) (?_)
            · go_simp
              have hC := (hH.push [.int .i64 0, .int .i64 0, .int .i64 0] 34)
              change Has w _ (w2.alloc (.cells #[.int .i64 0, .int .i64 0, .int .i64 0] 34)) at hC
              generalize w2.alloc (.cells #[.int .i64 0, .int .i64 0, .int .i64 0] 34) = W at *
              generalize w2.heap.size = U1 at *
              have hC' : Has w ([(U1, [.int .i64 0, .int .i64 0, .int .i64 0]), (U2, [.int .i64 0, .int .i64 0])] ++ [(Z4, [.int .i64 W0, .int .i64 W1, .int .i64 W2]), (Z3, [.int .i64 t0, .int .i64 t1, .int .i64 t2]), (Z2, [.int .i64 f0, .int .i64 f1, .int .i64 f2]), (Z1, [.int .i64 s0, .int .i64 s1, .int .i64 s2]), (N, [.int .i64 px, .int .i64 py]), (P, [.int .i64 A0, .int .i64 A1, .int .i64 A2]), (Q, [.int .i64 B0, .int .i64 B1, .int .i64 B2])]) W := hC
              refine hK.out _ _ (ms3.out _ (hC.tail.tail)) (fun _ => ?_)
              exact wpAnyH_cast rfl (by kernel_rfl) (by kernel_rfl) (ih ⟨some U1, some U2, none, 1⟩ _ (by simp only [Option.isSome, Bool.false_eq_true, if_false, if_true]; omega) ⟨by simp, hC⟩)
            refine AllReadyH.cons (o := ⟨some 23, Op.alloc 28, 0, _, _, none⟩) rfl (fun K hK => ?_) (AllReadyH.nil)
            · go_simp
              have hC := (hH.push [.int .i64 0, .int .i64 0] 28).swap
              change Has w _ (w2.alloc (.cells #[.int .i64 0, .int .i64 0] 28)) at hC
              generalize w2.alloc (.cells #[.int .i64 0, .int .i64 0] 28) = W at *
              generalize w2.heap.size = U3 at *
              have hC' : Has w ([(U2, [.int .i64 0, .int .i64 0]), (U3, [.int .i64 0, .int .i64 0])] ++ [(Z4, [.int .i64 W0, .int .i64 W1, .int .i64 W2]), (Z3, [.int .i64 t0, .int .i64 t1, .int .i64 t2]), (Z2, [.int .i64 f0, .int .i64 f1, .int .i64 f2]), (Z1, [.int .i64 s0, .int .i64 s1, .int .i64 s2]), (N, [.int .i64 px, .int .i64 py]), (P, [.int .i64 A0, .int .i64 A1, .int .i64 A2]), (Q, [.int .i64 B0, .int .i64 B1, .int .i64 B2])]) W := hC
              refine hK.out _ _ (ms3.out _ (hC.tail.tail)) (fun _ => ?_)
              exact wpAnyH_cast rfl (by kernel_rfl) (by kernel_rfl) (ih ⟨none, some U2, some U3, 1⟩ _ (by simp only [Option.isSome, Bool.false_eq_true, if_false, if_true]; omega) ⟨by simp, hC⟩)
          | some U3 =>
            simp only [Option.isSome, Bool.false_eq_true, if_false, if_true] at hk
            simp only [putc, putp, Act.put, decide_eq_true_eq, decide_true, decide_false, Nat.le_refl, Nat.reduceLeDiff, List.setIfInBounds_toArray, List.set_cons_zero, List.set_cons_succ]
            refine wpAnyH_listed #[true, true, true, false, true, true, true, true, true, true, false, false, true, true, false, false, false] (by kernel_rfl) ?_
            refine wpAnyH_ready (rs := [3, 11]) (by kernel_rfl) (by simp) ?_
            refine AllReadyH.cons (o := ⟨some 138, Op.call { callee := Callee.value (Operand.func 28), args := #[Operand.tmp 137], argTypes := #[28] }, 28, _, _, none⟩) rfl (fun K hK => ?_) (?_)
            · go_simp
              go_at_call 28
              refine (Has.call hH (small_is px py u0 u1 H_hu0.out H_hu1.out _)).mono ?_
              rintro e W ⟨rfl, hC⟩
              go_wp2_with fail
              refine hK.out _ _ (ms3.out _ hC.tail.tail) (fun _ => ?_)
              exact wpAnyH_cast rfl (by kernel_rfl) (by kernel_rfl) (ih ⟨none, some U2, some U3, 2⟩ _ (by simp only [Option.isSome, Bool.false_eq_true, if_false, if_true]; omega) ⟨by simp, hC⟩)
            refine AllReadyH.cons (o := ⟨some 21, Op.alloc 34, 0, _, _, none⟩) rfl (fun K hK => ?_) (AllReadyH.nil)
            · go_simp
              have hC := (hH.push [.int .i64 0, .int .i64 0, .int .i64 0] 34)
              change Has w _ (w2.alloc (.cells #[.int .i64 0, .int .i64 0, .int .i64 0] 34)) at hC
              generalize w2.alloc (.cells #[.int .i64 0, .int .i64 0, .int .i64 0] 34) = W at *
              generalize w2.heap.size = U1 at *
              have hC' : Has w ([(U1, [.int .i64 0, .int .i64 0, .int .i64 0]), (U2, [.int .i64 0, .int .i64 0]), (U3, [.int .i64 0, .int .i64 0])] ++ [(Z4, [.int .i64 W0, .int .i64 W1, .int .i64 W2]), (Z3, [.int .i64 t0, .int .i64 t1, .int .i64 t2]), (Z2, [.int .i64 f0, .int .i64 f1, .int .i64 f2]), (Z1, [.int .i64 s0, .int .i64 s1, .int .i64 s2]), (N, [.int .i64 px, .int .i64 py]), (P, [.int .i64 A0, .int .i64 A1, .int .i64 A2]), (Q, [.int .i64 B0, .int .i64 B1, .int .i64 B2])]) W := hC
              refine hK.out _ _ (ms3.out _ (hC.tail.tail.tail)) (fun _ => ?_)
              exact wpAnyH_cast rfl (by kernel_rfl) (by kernel_rfl) (ih ⟨some U1, some U2, some U3, 1⟩ _ (by simp only [Option.isSome, Bool.false_eq_true, if_false, if_true]; omega) ⟨by simp, hC⟩)
      | some U1 =>
        cases pb with
        | none =>
          cases pc with
          | none =>
            simp only [Option.isSome, Bool.false_eq_true, if_false, if_true] at hk
            simp only [putc, putp, Act.put, decide_eq_true_eq, decide_true, decide_false, Nat.le_refl, Nat.reduceLeDiff, List.setIfInBounds_toArray, List.set_cons_zero, List.set_cons_succ]
            refine wpAnyH_listed #[true, true, true, false, true, true, true, true, true, true, false, true, false, false, false, false, false] (by kernel_rfl) ?_
            refine wpAnyH_ready (rs := [3, 12, 13]) (by kernel_rfl) (by simp) ?_
            refine AllReadyH.cons (o := ⟨some 138, Op.call { callee := Callee.value (Operand.func 28), args := #[Operand.tmp 137], argTypes := #[28] }, 28, _, _, none⟩) rfl (fun K hK => ?_) (?_)
            · go_simp
              go_at_call 28
              refine (Has.call hH (small_is px py u0 u1 H_hu0.out H_hu1.out _)).mono ?_
              rintro e W ⟨rfl, hC⟩
              go_wp2_with fail
              refine hK.out _ _ (ms3.out _ hC.tail) (fun _ => ?_)
              exact wpAnyH_cast rfl (by kernel_rfl) (by kernel_rfl) (ih ⟨some U1, none, none, 2⟩ _ (by simp only [Option.isSome, Bool.false_eq_true, if_false, if_true]; omega) ⟨by simp, hC⟩)
            refine AllReadyH.cons (o := ⟨some 22, Op.alloc 28, 0, _, _, none⟩) rfl (fun K hK => ?_) (?_)
            · go_simp
              have hC := (hH.push [.int .i64 0, .int .i64 0] 28).swap
              change Has w _ (w2.alloc (.cells #[.int .i64 0, .int .i64 0] 28)) at hC
              generalize w2.alloc (.cells #[.int .i64 0, .int .i64 0] 28) = W at *
              generalize w2.heap.size = U2 at *
              have hC' : Has w ([(U1, [.int .i64 0, .int .i64 0, .int .i64 0]), (U2, [.int .i64 0, .int .i64 0])] ++ [(Z4, [.int .i64 W0, .int .i64 W1, .int .i64 W2]), (Z3, [.int .i64 t0, .int .i64 t1, .int .i64 t2]), (Z2, [.int .i64 f0, .int .i64 f1, .int .i64 f2]), (Z1, [.int .i64 s0, .int .i64 s1, .int .i64 s2]), (N, [.int .i64 px, .int .i64 py]), (P, [.int .i64 A0, .int .i64 A1, .int .i64 A2]), (Q, [.int .i64 B0, .int .i64 B1, .int .i64 B2])]) W := hC
              refine hK.out _ _ (ms3.out _ (hC.tail.tail)) (fun _ => ?_)
              exact wpAnyH_cast rfl (by kernel_rfl) (by kernel_rfl) (ih ⟨some U1, some U2, none, 1⟩ _ (by simp only [Option.isSome, Bool.false_eq_true, if_false, if_true]; omega) ⟨by simp, hC⟩)
            refine AllReadyH.cons (o := ⟨some 23, Op.alloc 28, 0, _, _, none⟩) rfl (fun K hK => ?_) (AllReadyH.nil)
            · go_simp
              have hC := (hH.push [.int .i64 0, .int .i64 0] 28).swap
              change Has w _ (w2.alloc (.cells #[.int .i64 0, .int .i64 0] 28)) at hC
              generalize w2.alloc (.cells #[.int .i64 0, .int .i64 0] 28) = W at *
              generalize w2.heap.size = U3 at *
              have hC' : Has w ([(U1, [.int .i64 0, .int .i64 0, .int .i64 0]), (U3, [.int .i64 0, .int .i64 0])] ++ [(Z4, [.int .i64 W0, .int .i64 W1, .int .i64 W2]), (Z3, [.int .i64 t0, .int .i64 t1, .int .i64 t2]), (Z2, [.int .i64 f0, .int .i64 f1, .int .i64 f2]), (Z1, [.int .i64 s0, .int .i64 s1, .int .i64 s2]), (N, [.int .i64 px, .int .i64 py]), (P, [.int .i64 A0, .int .i64 A1, .int .i64 A2]), (Q, [.int .i64 B0, .int .i64 B1, .int .i64 B2])]) W := hC
              refine hK.out _ _ (ms3.out _ (hC.tail.tail)) (fun _ => ?_)
              exact wpAnyH_cast rfl (by kernel_rfl) (by kernel_rfl) (ih ⟨some U1, none, some U3, 1⟩ _ (by simp only [Option.isSome, Bool.false_eq_true, if_false, if_true]; omega) ⟨by simp, hC⟩)
          | some U3 =>
            simp only [Option.isSome, Bool.false_eq_true, if_false, if_true] at hk
            simp only [putc, putp, Act.put, decide_eq_true_eq, decide_true, decide_false, Nat.le_refl, Nat.reduceLeDiff, List.setIfInBounds_toArray, List.set_cons_zero, List.set_cons_succ]
            refine wpAnyH_listed #[true, true, true, false, true, true, true, true, true, true, false, true, false, true, false, false, false] (by kernel_rfl) ?_
            refine wpAnyH_ready (rs := [3, 12]) (by kernel_rfl) (by simp) ?_
            refine AllReadyH.cons (o := ⟨some 138, Op.call { callee := Callee.value (Operand.func 28), args := #[Operand.tmp 137], argTypes := #[28] }, 28, _, _, none⟩) rfl (fun K hK => ?_) (?_)
            · go_simp
              go_at_call 28
              refine (Has.call hH (small_is px py u0 u1 H_hu0.out H_hu1.out _)).mono ?_
              rintro e W ⟨rfl, hC⟩
              go_wp2_with fail
              refine hK.out _ _ (ms3.out _ hC.tail.tail) (fun _ => ?_)
              exact wpAnyH_cast rfl (by kernel_rfl) (by kernel_rfl) (ih ⟨some U1, none, some U3, 2⟩ _ (by simp only [Option.isSome, Bool.false_eq_true, if_false, if_true]; omega) ⟨by simp, hC⟩)
            refine AllReadyH.cons (o := ⟨some 22, Op.alloc 28, 0, _, _, none⟩) rfl (fun K hK => ?_) (AllReadyH.nil)
            · go_simp
              have hC := (hH.push [.int .i64 0, .int .i64 0] 28).swap
              change Has w _ (w2.alloc (.cells #[.int .i64 0, .int .i64 0] 28)) at hC
              generalize w2.alloc (.cells #[.int .i64 0, .int .i64 0] 28) = W at *
              generalize w2.heap.size = U2 at *
              have hC' : Has w ([(U1, [.int .i64 0, .int .i64 0, .int .i64 0]), (U2, [.int .i64 0, .int .i64 0]), (U3, [.int .i64 0, .int .i64 0])] ++ [(Z4, [.int .i64 W0, .int .i64 W1, .int .i64 W2]), (Z3, [.int .i64 t0, .int .i64 t1, .int .i64 t2]), (Z2, [.int .i64 f0, .int .i64 f1, .int .i64 f2]), (Z1, [.int .i64 s0, .int .i64 s1, .int .i64 s2]), (N, [.int .i64 px, .int .i64 py]), (P, [.int .i64 A0, .int .i64 A1, .int .i64 A2]), (Q, [.int .i64 B0, .int .i64 B1, .int .i64 B2])]) W := hC
              refine hK.out _ _ (ms3.out _ (hC.tail.tail.tail)) (fun _ => ?_)
              exact wpAnyH_cast rfl (by kernel_rfl) (by kernel_rfl) (ih ⟨some U1, some U2, some U3, 1⟩ _ (by simp only [Option.isSome, Bool.false_eq_true, if_false, if_true]; omega) ⟨by simp, hC⟩)
        | some U2 =>
          cases pc with
          | none =>
            simp only [Option.isSome, Bool.false_eq_true, if_false, if_true] at hk
            simp only [putc, putp, Act.put, decide_eq_true_eq, decide_true, decide_false, Nat.le_refl, Nat.reduceLeDiff, List.setIfInBounds_toArray, List.set_cons_zero, List.set_cons_succ]
            refine wpAnyH_listed #[true, true, true, false, true, true, true, true, true, true, false, true, true, false, false, false, false] (by kernel_rfl) ?_
            refine wpAnyH_ready (rs := [3, 13]) (by kernel_rfl) (by simp) ?_
            refine AllReadyH.cons (o := ⟨some 138, Op.call { callee := Callee.value (Operand.func 28), args := #[Operand.tmp 137], argTypes := #[28] }, 28, _, _, none⟩) rfl (fun K hK => ?_) (?_)
            · go_simp
              go_at_call 28
              refine (Has.call hH (small_is px py u0 u1 H_hu0.out H_hu1.out _)).mono ?_
              rintro e W ⟨rfl, hC⟩
              go_wp2_with fail
              refine hK.out _ _ (ms3.out _ hC.tail.tail) (fun _ => ?_)
              exact wpAnyH_cast rfl (by kernel_rfl) (by kernel_rfl) (ih ⟨some U1, some U2, none, 2⟩ _ (by simp only [Option.isSome, Bool.false_eq_true, if_false, if_true]; omega) ⟨by simp, hC⟩)
            refine AllReadyH.cons (o := ⟨some 23, Op.alloc 28, 0, _, _, none⟩) rfl (fun K hK => ?_) (AllReadyH.nil)
            · go_simp
              have hC := (hH.push [.int .i64 0, .int .i64 0] 28).third.third
              change Has w _ (w2.alloc (.cells #[.int .i64 0, .int .i64 0] 28)) at hC
              generalize w2.alloc (.cells #[.int .i64 0, .int .i64 0] 28) = W at *
              generalize w2.heap.size = U3 at *
              have hC' : Has w ([(U1, [.int .i64 0, .int .i64 0, .int .i64 0]), (U2, [.int .i64 0, .int .i64 0]), (U3, [.int .i64 0, .int .i64 0])] ++ [(Z4, [.int .i64 W0, .int .i64 W1, .int .i64 W2]), (Z3, [.int .i64 t0, .int .i64 t1, .int .i64 t2]), (Z2, [.int .i64 f0, .int .i64 f1, .int .i64 f2]), (Z1, [.int .i64 s0, .int .i64 s1, .int .i64 s2]), (N, [.int .i64 px, .int .i64 py]), (P, [.int .i64 A0, .int .i64 A1, .int .i64 A2]), (Q, [.int .i64 B0, .int .i64 B1, .int .i64 B2])]) W := hC
              refine hK.out _ _ (ms3.out _ (hC.tail.tail.tail)) (fun _ => ?_)
              exact wpAnyH_cast rfl (by kernel_rfl) (by kernel_rfl) (ih ⟨some U1, some U2, some U3, 1⟩ _ (by simp only [Option.isSome, Bool.false_eq_true, if_false, if_true]; omega) ⟨by simp, hC⟩)
          | some U3 =>
            simp only [Option.isSome, Bool.false_eq_true, if_false, if_true] at hk
            simp only [putc, putp, Act.put, decide_eq_true_eq, decide_true, decide_false, Nat.le_refl, Nat.reduceLeDiff, List.setIfInBounds_toArray, List.set_cons_zero, List.set_cons_succ]
            refine wpAnyH_listed #[true, true, true, false, true, true, true, true, true, true, false, true, true, true, false, false, false] (by kernel_rfl) ?_
            refine wpAnyH_ready (rs := [3]) (by kernel_rfl) (by simp) ?_
            refine AllReadyH.cons (o := ⟨some 138, Op.call { callee := Callee.value (Operand.func 28), args := #[Operand.tmp 137], argTypes := #[28] }, 28, _, _, none⟩) rfl (fun K hK => ?_) (AllReadyH.nil)
            · go_simp
              go_at_call 28
              refine (Has.call hH (small_is px py u0 u1 H_hu0.out H_hu1.out _)).mono ?_
              rintro e W ⟨rfl, hC⟩
              go_wp2_with fail
              refine hK.out _ _ (ms3.out _ hC.tail.tail.tail) (fun _ => ?_)
              exact wpAnyH_cast rfl (by kernel_rfl) (by kernel_rfl) (ih ⟨some U1, some U2, some U3, 2⟩ _ (by simp only [Option.isSome, Bool.false_eq_true, if_false, if_true]; omega) ⟨by simp, hC⟩)
    · cases pa with
      | none =>
        cases pb with
        | none =>
          cases pc with
          | none =>
            simp only [Option.isSome, Bool.false_eq_true, if_false, if_true] at hk
            simp only [putc, putp, Act.put, decide_eq_true_eq, decide_true, decide_false, Nat.le_refl, Nat.reduceLeDiff, List.setIfInBounds_toArray, List.set_cons_zero, List.set_cons_succ]
            refine wpAnyH_listed #[true, true, true, true, true, true, true, true, true, true, false, false, false, false, false, false, false] (by kernel_rfl) ?_
            refine wpAnyH_ready (rs := [10, 11, 12, 13]) (by kernel_rfl) (by simp) ?_
            refine AllReadyH.cons (o := ⟨some 145, Op.call { callee := Callee.value (Operand.func 29), args := #[Operand.tmp 141, Operand.tmp 144], argTypes := #[3, 3] }, 28, _, _, none⟩) rfl (fun K hK => ?_) (?_)
            · go_simp
              go_at_call 29
              refine (Has.call hH (pt_any v0 v1 _)).mono ?_
              rintro e W ⟨rfl, hC⟩
              go_wp2_with fail
              refine hK.out _ _ (ms3.out _ hC) (fun _ => ?_)
              exact wpAnyH_cast rfl (by kernel_rfl) (by kernel_rfl) (ih ⟨none, none, none, 3⟩ _ (by simp only [Option.isSome, Bool.false_eq_true, if_false, if_true]; omega) ⟨by simp, hC⟩)
            refine AllReadyH.cons (o := ⟨some 21, Op.alloc 34, 0, _, _, none⟩) rfl (fun K hK => ?_) (?_)
            · go_simp
              have hC := (hH.push [.int .i64 0, .int .i64 0, .int .i64 0] 34)
              change Has w _ (w2.alloc (.cells #[.int .i64 0, .int .i64 0, .int .i64 0] 34)) at hC
              generalize w2.alloc (.cells #[.int .i64 0, .int .i64 0, .int .i64 0] 34) = W at *
              generalize w2.heap.size = U1 at *
              have hC' : Has w ([(U1, [.int .i64 0, .int .i64 0, .int .i64 0])] ++ [(Z4, [.int .i64 W0, .int .i64 W1, .int .i64 W2]), (Z3, [.int .i64 t0, .int .i64 t1, .int .i64 t2]), (Z2, [.int .i64 f0, .int .i64 f1, .int .i64 f2]), (Z1, [.int .i64 s0, .int .i64 s1, .int .i64 s2]), (N, [.int .i64 px, .int .i64 py]), (P, [.int .i64 A0, .int .i64 A1, .int .i64 A2]), (Q, [.int .i64 B0, .int .i64 B1, .int .i64 B2])]) W := hC
              refine hK.out _ _ (ms3.out _ (hC.tail)) (fun _ => ?_)
              exact wpAnyH_cast rfl (by kernel_rfl) (by kernel_rfl) (ih ⟨some U1, none, none, 2⟩ _ (by simp only [Option.isSome, Bool.false_eq_true, if_false, if_true]; omega) ⟨by simp, hC⟩)
            refine AllReadyH.cons (o := ⟨some 22, Op.alloc 28, 0, _, _, none⟩) rfl (fun K hK => ?_) (?_)
            · go_simp
              have hC := (hH.push [.int .i64 0, .int .i64 0] 28)
              change Has w _ (w2.alloc (.cells #[.int .i64 0, .int .i64 0] 28)) at hC
              generalize w2.alloc (.cells #[.int .i64 0, .int .i64 0] 28) = W at *
              generalize w2.heap.size = U2 at *
              have hC' : Has w ([(U2, [.int .i64 0, .int .i64 0])] ++ [(Z4, [.int .i64 W0, .int .i64 W1, .int .i64 W2]), (Z3, [.int .i64 t0, .int .i64 t1, .int .i64 t2]), (Z2, [.int .i64 f0, .int .i64 f1, .int .i64 f2]), (Z1, [.int .i64 s0, .int .i64 s1, .int .i64 s2]), (N, [.int .i64 px, .int .i64 py]), (P, [.int .i64 A0, .int .i64 A1, .int .i64 A2]), (Q, [.int .i64 B0, .int .i64 B1, .int .i64 B2])]) W := hC
              refine hK.out _ _ (ms3.out _ (hC.tail)) (fun _ => ?_)
              exact wpAnyH_cast rfl (by kernel_rfl) (by kernel_rfl) (ih ⟨none, some U2, none, 2⟩ _ (by simp only [Option.isSome, Bool.false_eq_true, if_false, if_true]; omega) ⟨by simp, hC⟩)
            refine AllReadyH.cons (o := ⟨some 23, Op.alloc 28, 0, _, _, none⟩) rfl (fun K hK => ?_) (AllReadyH.nil)
            · go_simp
              have hC := (hH.push [.int .i64 0, .int .i64 0] 28)
              change Has w _ (w2.alloc (.cells #[.int .i64 0, .int .i64 0] 28)) at hC
              generalize w2.alloc (.cells #[.int .i64 0, .int .i64 0] 28) = W at *
              generalize w2.heap.size = U3 at *
              have hC' : Has w ([(U3, [.int .i64 0, .int .i64 0])] ++ [(Z4, [.int .i64 W0, .int .i64 W1, .int .i64 W2]), (Z3, [.int .i64 t0, .int .i64 t1, .int .i64 t2]), (Z2, [.int .i64 f0, .int .i64 f1, .int .i64 f2]), (Z1, [.int .i64 s0, .int .i64 s1, .int .i64 s2]), (N, [.int .i64 px, .int .i64 py]), (P, [.int .i64 A0, .int .i64 A1, .int .i64 A2]), (Q, [.int .i64 B0, .int .i64 B1, .int .i64 B2])]) W := hC
              refine hK.out _ _ (ms3.out _ (hC.tail)) (fun _ => ?_)
              exact wpAnyH_cast rfl (by kernel_rfl) (by kernel_rfl) (ih ⟨none, none, some U3, 2⟩ _ (by simp only [Option.isSome, Bool.false_eq_true, if_false, if_true]; omega) ⟨by simp, hC⟩)
          | some U3 =>
            simp only [Option.isSome, Bool.false_eq_true, if_false, if_true] at hk
            simp only [putc, putp, Act.put, decide_eq_true_eq, decide_true, decide_false, Nat.le_refl, Nat.reduceLeDiff, List.setIfInBounds_toArray, List.set_cons_zero, List.set_cons_succ]
            refine wpAnyH_listed #[true, true, true, true, true, true, true, true, true, true, false, false, false, true, false, false, false] (by kernel_rfl) ?_
            refine wpAnyH_ready (rs := [10, 11, 12]) (by kernel_rfl) (by simp) ?_
            refine AllReadyH.cons (o := ⟨some 145, Op.call { callee := Callee.value (Operand.func 29), args := #[Operand.tmp 141, Operand.tmp 144], argTypes := #[3, 3] }, 28, _, _, none⟩) rfl (fun K hK => ?_) (?_)
            · go_simp
              go_at_call 29
              refine (Has.call hH (pt_any v0 v1 _)).mono ?_
              rintro e W ⟨rfl, hC⟩
              go_wp2_with fail
              refine hK.out _ _ (ms3.out _ hC.tail) (fun _ => ?_)
              exact wpAnyH_cast rfl (by kernel_rfl) (by kernel_rfl) (ih ⟨none, none, some U3, 3⟩ _ (by simp only [Option.isSome, Bool.false_eq_true, if_false, if_true]; omega) ⟨by simp, hC⟩)
            refine AllReadyH.cons (o := ⟨some 21, Op.alloc 34, 0, _, _, none⟩) rfl (fun K hK => ?_) (?_)
            · go_simp
              have hC := (hH.push [.int .i64 0, .int .i64 0, .int .i64 0] 34)
              change Has w _ (w2.alloc (.cells #[.int .i64 0, .int .i64 0, .int .i64 0] 34)) at hC
              generalize w2.alloc (.cells #[.int .i64 0, .int .i64 0, .int .i64 0] 34) = W at *
              generalize w2.heap.size = U1 at *
              have hC' : Has w ([(U1, [.int .i64 0, .int .i64 0, .int .i64 0]), (U3, [.int .i64 0, .int .i64 0])] ++ [(Z4, [.int .i64 W0, .int .i64 W1, .int .i64 W2]), (Z3, [.int .i64 t0, .int .i64 t1, .int .i64 t2]), (Z2, [.int .i64 f0, .int .i64 f1, .int .i64 f2]), (Z1, [.int .i64 s0, .int .i64 s1, .int .i64 s2]), (N, [.int .i64 px, .int .i64 py]), (P, [.int .i64 A0, .int .i64 A1, .int .i64 A2]), (Q, [.int .i64 B0, .int .i64 B1, .int .i64 B2])]) W := hC
              refine hK.out _ _ (ms3.out _ (hC.tail.tail)) (fun _ => ?_)
              exact wpAnyH_cast rfl (by kernel_rfl) (by kernel_rfl) (ih ⟨some U1, none, some U3, 2⟩ _ (by simp only [Option.isSome, Bool.false_eq_true, if_false, if_true]; omega) ⟨by simp, hC⟩)
            refine AllReadyH.cons (o := ⟨some 22, Op.alloc 28, 0, _, _, none⟩) rfl (fun K hK => ?_) (AllReadyH.nil)
            · go_simp
              have hC := (hH.push [.int .i64 0, .int .i64 0] 28)
              change Has w _ (w2.alloc (.cells #[.int .i64 0, .int .i64 0] 28)) at hC
              generalize w2.alloc (.cells #[.int .i64 0, .int .i64 0] 28) = W at *
              generalize w2.heap.size = U2 at *
              have hC' : Has w ([(U2, [.int .i64 0, .int .i64 0]), (U3, [.int .i64 0, .int .i64 0])] ++ [(Z4, [.int .i64 W0, .int .i64 W1, .int .i64 W2]), (Z3, [.int .i64 t0, .int .i64 t1, .int .i64 t2]), (Z2, [.int .i64 f0, .int .i64 f1, .int .i64 f2]), (Z1, [.int .i64 s0, .int .i64 s1, .int .i64 s2]), (N, [.int .i64 px, .int .i64 py]), (P, [.int .i64 A0, .int .i64 A1, .int .i64 A2]), (Q, [.int .i64 B0, .int .i64 B1, .int .i64 B2])]) W := hC
              refine hK.out _ _ (ms3.out _ (hC.tail.tail)) (fun _ => ?_)
              exact wpAnyH_cast rfl (by kernel_rfl) (by kernel_rfl) (ih ⟨none, some U2, some U3, 2⟩ _ (by simp only [Option.isSome, Bool.false_eq_true, if_false, if_true]; omega) ⟨by simp, hC⟩)
        | some U2 =>
          cases pc with
          | none =>
            simp only [Option.isSome, Bool.false_eq_true, if_false, if_true] at hk
            simp only [putc, putp, Act.put, decide_eq_true_eq, decide_true, decide_false, Nat.le_refl, Nat.reduceLeDiff, List.setIfInBounds_toArray, List.set_cons_zero, List.set_cons_succ]
            refine wpAnyH_listed #[true, true, true, true, true, true, true, true, true, true, false, false, true, false, false, false, false] (by kernel_rfl) ?_
            refine wpAnyH_ready (rs := [10, 11, 13]) (by kernel_rfl) (by simp) ?_
            refine AllReadyH.cons (o := ⟨some 145, Op.call { callee := Callee.value (Operand.func 29), args := #[Operand.tmp 141, Operand.tmp 144], argTypes := #[3, 3] }, 28, _, _, none⟩) rfl (fun K hK => ?_) (?_)
            · go_simp
              go_at_call 29
              refine (Has.call hH (pt_any v0 v1 _)).mono ?_
              rintro e W ⟨rfl, hC⟩
              go_wp2_with fail
              refine hK.out _ _ (ms3.out _ hC.tail) (fun _ => ?_)
              exact wpAnyH_cast rfl (by kernel_rfl) (by kernel_rfl) (ih ⟨none, some U2, none, 3⟩ _ (by simp only [Option.isSome, Bool.false_eq_true, if_false, if_true]; omega) ⟨by simp, hC⟩)
            refine AllReadyH.cons (o := ⟨some 21, Op.alloc 34, 0, _, _, none⟩) rfl (fun K hK => ?_) (?_)
            · go_simp
              have hC := (hH.push [.int .i64 0, .int .i64 0, .int .i64 0] 34)
              change Has w _ (w2.alloc (.cells #[.int .i64 0, .int .i64 0, .int .i64 0] 34)) at hC
              generalize w2.alloc (.cells #[.int .i64 0, .int .i64 0, .int .i64 0] 34) = W at *
              generalize w2.heap.size = U1 at *
              have hC' : Has w ([(U1, [.int .i64 0, .int .i64 0, .int .i64 0]), (U2, [.int .i64 0, .int .i64 0])] ++ [(Z4, [.int .i64 W0, .int .i64 W1, .int .i64 W2]), (Z3, [.int .i64 t0, .int .i64 t1, .int .i64 t2]), (Z2, [.int .i64 f0, .int .i64 f1, .int .i64 f2]), (Z1, [.int .i64 s0, .int .i64 s1, .int .i64 s2]), (N, [.int .i64 px, .int .i64 py]), (P, [.int .i64 A0, .int .i64 A1, .int .i64 A2]), (Q, [.int .i64 B0, .int .i64 B1, .int .i64 B2])]) W := hC
              refine hK.out _ _ (ms3.out _ (hC.tail.tail)) (fun _ => ?_)
              exact wpAnyH_cast rfl (by kernel_rfl) (by kernel_rfl) (ih ⟨some U1, some U2, none, 2⟩ _ (by simp only [Option.isSome, Bool.false_eq_true, if_false, if_true]; omega) ⟨by simp, hC⟩)
            refine AllReadyH.cons (o := ⟨some 23, Op.alloc 28, 0, _, _, none⟩) rfl (fun K hK => ?_) (AllReadyH.nil)
            · go_simp
              have hC := (hH.push [.int .i64 0, .int .i64 0] 28).swap
              change Has w _ (w2.alloc (.cells #[.int .i64 0, .int .i64 0] 28)) at hC
              generalize w2.alloc (.cells #[.int .i64 0, .int .i64 0] 28) = W at *
              generalize w2.heap.size = U3 at *
              have hC' : Has w ([(U2, [.int .i64 0, .int .i64 0]), (U3, [.int .i64 0, .int .i64 0])] ++ [(Z4, [.int .i64 W0, .int .i64 W1, .int .i64 W2]), (Z3, [.int .i64 t0, .int .i64 t1, .int .i64 t2]), (Z2, [.int .i64 f0, .int .i64 f1, .int .i64 f2]), (Z1, [.int .i64 s0, .int .i64 s1, .int .i64 s2]), (N, [.int .i64 px, .int .i64 py]), (P, [.int .i64 A0, .int .i64 A1, .int .i64 A2]), (Q, [.int .i64 B0, .int .i64 B1, .int .i64 B2])]) W := hC
              refine hK.out _ _ (ms3.out _ (hC.tail.tail)) (fun _ => ?_)
              exact wpAnyH_cast rfl (by kernel_rfl) (by kernel_rfl) (ih ⟨none, some U2, some U3, 2⟩ _ (by simp only [Option.isSome, Bool.false_eq_true, if_false, if_true]; omega) ⟨by simp, hC⟩)
          | some U3 =>
            simp only [Option.isSome, Bool.false_eq_true, if_false, if_true] at hk
            simp only [putc, putp, Act.put, decide_eq_true_eq, decide_true, decide_false, Nat.le_refl, Nat.reduceLeDiff, List.setIfInBounds_toArray, List.set_cons_zero, List.set_cons_succ]
            refine wpAnyH_listed #[true, true, true, true, true, true, true, true, true, true, false, false, true, true, false, false, false] (by kernel_rfl) ?_
            refine wpAnyH_ready (rs := [10, 11]) (by kernel_rfl) (by simp) ?_
            refine AllReadyH.cons (o := ⟨some 145, Op.call { callee := Callee.value (Operand.func 29), args := #[Operand.tmp 141, Operand.tmp 144], argTypes := #[3, 3] }, 28, _, _, none⟩) rfl (fun K hK => ?_) (?_)
            · go_simp
              go_at_call 29
              refine (Has.call hH (pt_any v0 v1 _)).mono ?_
              rintro e W ⟨rfl, hC⟩
              go_wp2_with fail
              refine hK.out _ _ (ms3.out _ hC.tail.tail) (fun _ => ?_)
              exact wpAnyH_cast rfl (by kernel_rfl) (by kernel_rfl) (ih ⟨none, some U2, some U3, 3⟩ _ (by simp only [Option.isSome, Bool.false_eq_true, if_false, if_true]; omega) ⟨by simp, hC⟩)
            refine AllReadyH.cons (o := ⟨some 21, Op.alloc 34, 0, _, _, none⟩) rfl (fun K hK => ?_) (AllReadyH.nil)
            · go_simp
              have hC := (hH.push [.int .i64 0, .int .i64 0, .int .i64 0] 34)
              change Has w _ (w2.alloc (.cells #[.int .i64 0, .int .i64 0, .int .i64 0] 34)) at hC
              generalize w2.alloc (.cells #[.int .i64 0, .int .i64 0, .int .i64 0] 34) = W at *
              generalize w2.heap.size = U1 at *
              have hC' : Has w ([(U1, [.int .i64 0, .int .i64 0, .int .i64 0]), (U2, [.int .i64 0, .int .i64 0]), (U3, [.int .i64 0, .int .i64 0])] ++ [(Z4, [.int .i64 W0, .int .i64 W1, .int .i64 W2]), (Z3, [.int .i64 t0, .int .i64 t1, .int .i64 t2]), (Z2, [.int .i64 f0, .int .i64 f1, .int .i64 f2]), (Z1, [.int .i64 s0, .int .i64 s1, .int .i64 s2]), (N, [.int .i64 px, .int .i64 py]), (P, [.int .i64 A0, .int .i64 A1, .int .i64 A2]), (Q, [.int .i64 B0, .int .i64 B1, .int .i64 B2])]) W := hC
              refine hK.out _ _ (ms3.out _ (hC.tail.tail.tail)) (fun _ => ?_)
              exact wpAnyH_cast rfl (by kernel_rfl) (by kernel_rfl) (ih ⟨some U1, some U2, some U3, 2⟩ _ (by simp only [Option.isSome, Bool.false_eq_true, if_false, if_true]; omega) ⟨by simp, hC⟩)
      | some U1 =>
        cases pb with
        | none =>
          cases pc with
          | none =>
            simp only [Option.isSome, Bool.false_eq_true, if_false, if_true] at hk
            simp only [putc, putp, Act.put, decide_eq_true_eq, decide_true, decide_false, Nat.le_refl, Nat.reduceLeDiff, List.setIfInBounds_toArray, List.set_cons_zero, List.set_cons_succ]
            refine wpAnyH_listed #[true, true, true, true, true, true, true, true, true, true, false, true, false, false, false, false, false] (by kernel_rfl) ?_
            refine wpAnyH_ready (rs := [10, 12, 13]) (by kernel_rfl) (by simp) ?_
            refine AllReadyH.cons (o := ⟨some 145, Op.call { callee := Callee.value (Operand.func 29), args := #[Operand.tmp 141, Operand.tmp 144], argTypes := #[3, 3] }, 28, _, _, none⟩) rfl (fun K hK => ?_) (?_)
            · go_simp
              go_at_call 29
              refine (Has.call hH (pt_any v0 v1 _)).mono ?_
              rintro e W ⟨rfl, hC⟩
              go_wp2_with fail
              refine hK.out _ _ (ms3.out _ hC.tail) (fun _ => ?_)
              exact wpAnyH_cast rfl (by kernel_rfl) (by kernel_rfl) (ih ⟨some U1, none, none, 3⟩ _ (by simp only [Option.isSome, Bool.false_eq_true, if_false, if_true]; omega) ⟨by simp, hC⟩)
            refine AllReadyH.cons (o := ⟨some 22, Op.alloc 28, 0, _, _, none⟩) rfl (fun K hK => ?_) (?_)
            · go_simp
              have hC := (hH.push [.int .i64 0, .int .i64 0] 28).swap
              change Has w _ (w2.alloc (.cells #[.int .i64 0, .int .i64 0] 28)) at hC
              generalize w2.alloc (.cells #[.int .i64 0, .int .i64 0] 28) = W at *
              generalize w2.heap.size = U2 at *
              have hC' : Has w ([(U1, [.int .i64 0, .int .i64 0, .int .i64 0]), (U2, [.int .i64 0, .int .i64 0])] ++ [(Z4, [.int .i64 W0, .int .i64 W1, .int .i64 W2]), (Z3, [.int .i64 t0, .int .i64 t1, .int .i64 t2]), (Z2, [.int .i64 f0, .int .i64 f1, .int .i64 f2]), (Z1, [.int .i64 s0, .int .i64 s1, .int .i64 s2]), (N, [.int .i64 px, .int .i64 py]), (P, [.int .i64 A0, .int .i64 A1, .int .i64 A2]), (Q, [.int .i64 B0, .int .i64 B1, .int .i64 B2])]) W := hC
              refine hK.out _ _ (ms3.out _ (hC.tail.tail)) (fun _ => ?_)
              exact wpAnyH_cast rfl (by kernel_rfl) (by kernel_rfl) (ih ⟨some U1, some U2, none, 2⟩ _ (by simp only [Option.isSome, Bool.false_eq_true, if_false, if_true]; omega) ⟨by simp, hC⟩)
            refine AllReadyH.cons (o := ⟨some 23, Op.alloc 28, 0, _, _, none⟩) rfl (fun K hK => ?_) (AllReadyH.nil)
            · go_simp
              have hC := (hH.push [.int .i64 0, .int .i64 0] 28).swap
              change Has w _ (w2.alloc (.cells #[.int .i64 0, .int .i64 0] 28)) at hC
              generalize w2.alloc (.cells #[.int .i64 0, .int .i64 0] 28) = W at *
              generalize w2.heap.size = U3 at *
              have hC' : Has w ([(U1, [.int .i64 0, .int .i64 0, .int .i64 0]), (U3, [.int .i64 0, .int .i64 0])] ++ [(Z4, [.int .i64 W0, .int .i64 W1, .int .i64 W2]), (Z3, [.int .i64 t0, .int .i64 t1, .int .i64 t2]), (Z2, [.int .i64 f0, .int .i64 f1, .int .i64 f2]), (Z1, [.int .i64 s0, .int .i64 s1, .int .i64 s2]), (N, [.int .i64 px, .int .i64 py]), (P, [.int .i64 A0, .int .i64 A1, .int .i64 A2]), (Q, [.int .i64 B0, .int .i64 B1, .int .i64 B2])]) W := hC
              refine hK.out _ _ (ms3.out _ (hC.tail.tail)) (fun _ => ?_)
              exact wpAnyH_cast rfl (by kernel_rfl) (by kernel_rfl) (ih ⟨some U1, none, some U3, 2⟩ _ (by simp only [Option.isSome, Bool.false_eq_true, if_false, if_true]; omega) ⟨by simp, hC⟩)
          | some U3 =>
            simp only [Option.isSome, Bool.false_eq_true, if_false, if_true] at hk
            simp only [putc, putp, Act.put, decide_eq_true_eq, decide_true, decide_false, Nat.le_refl, Nat.reduceLeDiff, List.setIfInBounds_toArray, List.set_cons_zero, List.set_cons_succ]
            refine wpAnyH_listed #[true, true, true, true, true, true, true, true, true, true, false, true, false, true, false, false, false] (by kernel_rfl) ?_
            refine wpAnyH_ready (rs := [10, 12]) (by kernel_rfl) (by simp) ?_
            refine AllReadyH.cons (o := ⟨some 145, Op.call { callee := Callee.value (Operand.func 29), args := #[Operand.tmp 141, Operand.tmp 144], argTypes := #[3, 3] }, 28, _, _, none⟩) rfl (fun K hK => ?_) (?_)
            · go_simp
              go_at_call 29
              refine (Has.call hH (pt_any v0 v1 _)).mono ?_
              rintro e W ⟨rfl, hC⟩
              go_wp2_with fail
              refine hK.out _ _ (ms3.out _ hC.tail.tail) (fun _ => ?_)
              exact wpAnyH_cast rfl (by kernel_rfl) (by kernel_rfl) (ih ⟨some U1, none, some U3, 3⟩ _ (by simp only [Option.isSome, Bool.false_eq_true, if_false, if_true]; omega) ⟨by simp, hC⟩)
            refine AllReadyH.cons (o := ⟨some 22, Op.alloc 28, 0, _, _, none⟩) rfl (fun K hK => ?_) (AllReadyH.nil)
            · go_simp
              have hC := (hH.push [.int .i64 0, .int .i64 0] 28).swap
              change Has w _ (w2.alloc (.cells #[.int .i64 0, .int .i64 0] 28)) at hC
              generalize w2.alloc (.cells #[.int .i64 0, .int .i64 0] 28) = W at *
              generalize w2.heap.size = U2 at *
              have hC' : Has w ([(U1, [.int .i64 0, .int .i64 0, .int .i64 0]), (U2, [.int .i64 0, .int .i64 0]), (U3, [.int .i64 0, .int .i64 0])] ++ [(Z4, [.int .i64 W0, .int .i64 W1, .int .i64 W2]), (Z3, [.int .i64 t0, .int .i64 t1, .int .i64 t2]), (Z2, [.int .i64 f0, .int .i64 f1, .int .i64 f2]), (Z1, [.int .i64 s0, .int .i64 s1, .int .i64 s2]), (N, [.int .i64 px, .int .i64 py]), (P, [.int .i64 A0, .int .i64 A1, .int .i64 A2]), (Q, [.int .i64 B0, .int .i64 B1, .int .i64 B2])]) W := hC
              refine hK.out _ _ (ms3.out _ (hC.tail.tail.tail)) (fun _ => ?_)
              exact wpAnyH_cast rfl (by kernel_rfl) (by kernel_rfl) (ih ⟨some U1, some U2, some U3, 2⟩ _ (by simp only [Option.isSome, Bool.false_eq_true, if_false, if_true]; omega) ⟨by simp, hC⟩)
        | some U2 =>
          cases pc with
          | none =>
            simp only [Option.isSome, Bool.false_eq_true, if_false, if_true] at hk
            simp only [putc, putp, Act.put, decide_eq_true_eq, decide_true, decide_false, Nat.le_refl, Nat.reduceLeDiff, List.setIfInBounds_toArray, List.set_cons_zero, List.set_cons_succ]
            refine wpAnyH_listed #[true, true, true, true, true, true, true, true, true, true, false, true, true, false, false, false, false] (by kernel_rfl) ?_
            refine wpAnyH_ready (rs := [10, 13]) (by kernel_rfl) (by simp) ?_
            refine AllReadyH.cons (o := ⟨some 145, Op.call { callee := Callee.value (Operand.func 29), args := #[Operand.tmp 141, Operand.tmp 144], argTypes := #[3, 3] }, 28, _, _, none⟩) rfl (fun K hK => ?_) (?_)
            · go_simp
              go_at_call 29
              refine (Has.call hH (pt_any v0 v1 _)).mono ?_
              rintro e W ⟨rfl, hC⟩
              go_wp2_with fail
              refine hK.out _ _ (ms3.out _ hC.tail.tail) (fun _ => ?_)
              exact wpAnyH_cast rfl (by kernel_rfl) (by kernel_rfl) (ih ⟨some U1, some U2, none, 3⟩ _ (by simp only [Option.isSome, Bool.false_eq_true, if_false, if_true]; omega) ⟨by simp, hC⟩)
            refine AllReadyH.cons (o := ⟨some 23, Op.alloc 28, 0, _, _, none⟩) rfl (fun K hK => ?_) (AllReadyH.nil)
            · go_simp
              have hC := (hH.push [.int .i64 0, .int .i64 0] 28).third.third
              change Has w _ (w2.alloc (.cells #[.int .i64 0, .int .i64 0] 28)) at hC
              generalize w2.alloc (.cells #[.int .i64 0, .int .i64 0] 28) = W at *
              generalize w2.heap.size = U3 at *
              have hC' : Has w ([(U1, [.int .i64 0, .int .i64 0, .int .i64 0]), (U2, [.int .i64 0, .int .i64 0]), (U3, [.int .i64 0, .int .i64 0])] ++ [(Z4, [.int .i64 W0, .int .i64 W1, .int .i64 W2]), (Z3, [.int .i64 t0, .int .i64 t1, .int .i64 t2]), (Z2, [.int .i64 f0, .int .i64 f1, .int .i64 f2]), (Z1, [.int .i64 s0, .int .i64 s1, .int .i64 s2]), (N, [.int .i64 px, .int .i64 py]), (P, [.int .i64 A0, .int .i64 A1, .int .i64 A2]), (Q, [.int .i64 B0, .int .i64 B1, .int .i64 B2])]) W := hC
              refine hK.out _ _ (ms3.out _ (hC.tail.tail.tail)) (fun _ => ?_)
              exact wpAnyH_cast rfl (by kernel_rfl) (by kernel_rfl) (ih ⟨some U1, some U2, some U3, 2⟩ _ (by simp only [Option.isSome, Bool.false_eq_true, if_false, if_true]; omega) ⟨by simp, hC⟩)
          | some U3 =>
            simp only [Option.isSome, Bool.false_eq_true, if_false, if_true] at hk
            simp only [putc, putp, Act.put, decide_eq_true_eq, decide_true, decide_false, Nat.le_refl, Nat.reduceLeDiff, List.setIfInBounds_toArray, List.set_cons_zero, List.set_cons_succ]
            refine wpAnyH_listed #[true, true, true, true, true, true, true, true, true, true, false, true, true, true, false, false, false] (by kernel_rfl) ?_
            refine wpAnyH_ready (rs := [10]) (by kernel_rfl) (by simp) ?_
            refine AllReadyH.cons (o := ⟨some 145, Op.call { callee := Callee.value (Operand.func 29), args := #[Operand.tmp 141, Operand.tmp 144], argTypes := #[3, 3] }, 28, _, _, none⟩) rfl (fun K hK => ?_) (AllReadyH.nil)
            · go_simp
              go_at_call 29
              refine (Has.call hH (pt_any v0 v1 _)).mono ?_
              rintro e W ⟨rfl, hC⟩
              go_wp2_with fail
              refine hK.out _ _ (ms3.out _ hC.tail.tail.tail) (fun _ => ?_)
              exact wpAnyH_cast rfl (by kernel_rfl) (by kernel_rfl) (ih ⟨some U1, some U2, some U3, 3⟩ _ (by simp only [Option.isSome, Bool.false_eq_true, if_false, if_true]; omega) ⟨by simp, hC⟩)
    · cases pa with
      | none =>
        cases pb with
        | none =>
          cases pc with
          | none =>
            simp only [Option.isSome, Bool.false_eq_true, if_false, if_true] at hk
            simp only [putc, putp, Act.put, decide_eq_true_eq, decide_true, decide_false, Nat.le_refl, Nat.reduceLeDiff, List.setIfInBounds_toArray, List.set_cons_zero, List.set_cons_succ]
            refine wpAnyH_listed #[true, true, true, true, true, true, true, true, true, true, true, false, false, false, false, false, false] (by kernel_rfl) ?_
            refine wpAnyH_ready (rs := [11, 12, 13]) (by kernel_rfl) (by simp) ?_
            refine AllReadyH.cons (o := ⟨some 21, Op.alloc 34, 0, _, _, none⟩) rfl (fun K hK => ?_) (?_)
            · go_simp
              have hC := (hH.push [.int .i64 0, .int .i64 0, .int .i64 0] 34)
              change Has w _ (w2.alloc (.cells #[.int .i64 0, .int .i64 0, .int .i64 0] 34)) at hC
              generalize w2.alloc (.cells #[.int .i64 0, .int .i64 0, .int .i64 0] 34) = W at *
              generalize w2.heap.size = U1 at *
              have hC' : Has w ([(U1, [.int .i64 0, .int .i64 0, .int .i64 0])] ++ [(Z4, [.int .i64 W0, .int .i64 W1, .int .i64 W2]), (Z3, [.int .i64 t0, .int .i64 t1, .int .i64 t2]), (Z2, [.int .i64 f0, .int .i64 f1, .int .i64 f2]), (Z1, [.int .i64 s0, .int .i64 s1, .int .i64 s2]), (N, [.int .i64 px, .int .i64 py]), (P, [.int .i64 A0, .int .i64 A1, .int .i64 A2]), (Q, [.int .i64 B0, .int .i64 B1, .int .i64 B2])]) W := hC
              refine hK.out _ _ (ms3.out _ (hC.tail)) (fun _ => ?_)
              exact wpAnyH_cast rfl (by kernel_rfl) (by kernel_rfl) (ih ⟨some U1, none, none, 3⟩ _ (by simp only [Option.isSome, Bool.false_eq_true, if_false, if_true]; omega) ⟨by simp, hC⟩)
            refine AllReadyH.cons (o := ⟨some 22, Op.alloc 28, 0, _, _, none⟩) rfl (fun K hK => ?_) (?_)
            · go_simp
              have hC := (hH.push [.int .i64 0, .int .i64 0] 28)
              change Has w _ (w2.alloc (.cells #[.int .i64 0, .int .i64 0] 28)) at hC
              generalize w2.alloc (.cells #[.int .i64 0, .int .i64 0] 28) = W at *
              generalize w2.heap.size = U2 at *
              have hC' : Has w ([(U2, [.int .i64 0, .int .i64 0])] ++ [(Z4, [.int .i64 W0, .int .i64 W1, .int .i64 W2]), (Z3, [.int .i64 t0, .int .i64 t1, .int .i64 t2]), (Z2, [.int .i64 f0, .int .i64 f1, .int .i64 f2]), (Z1, [.int .i64 s0, .int .i64 s1, .int .i64 s2]), (N, [.int .i64 px, .int .i64 py]), (P, [.int .i64 A0, .int .i64 A1, .int .i64 A2]), (Q, [.int .i64 B0, .int .i64 B1, .int .i64 B2])]) W := hC
              refine hK.out _ _ (ms3.out _ (hC.tail)) (fun _ => ?_)
              exact wpAnyH_cast rfl (by kernel_rfl) (by kernel_rfl) (ih ⟨none, some U2, none, 3⟩ _ (by simp only [Option.isSome, Bool.false_eq_true, if_false, if_true]; omega) ⟨by simp, hC⟩)
            refine AllReadyH.cons (o := ⟨some 23, Op.alloc 28, 0, _, _, none⟩) rfl (fun K hK => ?_) (AllReadyH.nil)
            · go_simp
              have hC := (hH.push [.int .i64 0, .int .i64 0] 28)
              change Has w _ (w2.alloc (.cells #[.int .i64 0, .int .i64 0] 28)) at hC
              generalize w2.alloc (.cells #[.int .i64 0, .int .i64 0] 28) = W at *
              generalize w2.heap.size = U3 at *
              have hC' : Has w ([(U3, [.int .i64 0, .int .i64 0])] ++ [(Z4, [.int .i64 W0, .int .i64 W1, .int .i64 W2]), (Z3, [.int .i64 t0, .int .i64 t1, .int .i64 t2]), (Z2, [.int .i64 f0, .int .i64 f1, .int .i64 f2]), (Z1, [.int .i64 s0, .int .i64 s1, .int .i64 s2]), (N, [.int .i64 px, .int .i64 py]), (P, [.int .i64 A0, .int .i64 A1, .int .i64 A2]), (Q, [.int .i64 B0, .int .i64 B1, .int .i64 B2])]) W := hC
              refine hK.out _ _ (ms3.out _ (hC.tail)) (fun _ => ?_)
              exact wpAnyH_cast rfl (by kernel_rfl) (by kernel_rfl) (ih ⟨none, none, some U3, 3⟩ _ (by simp only [Option.isSome, Bool.false_eq_true, if_false, if_true]; omega) ⟨by simp, hC⟩)
          | some U3 =>
            simp only [Option.isSome, Bool.false_eq_true, if_false, if_true] at hk
            simp only [putc, putp, Act.put, decide_eq_true_eq, decide_true, decide_false, Nat.le_refl, Nat.reduceLeDiff, List.setIfInBounds_toArray, List.set_cons_zero, List.set_cons_succ]
            refine wpAnyH_listed #[true, true, true, true, true, true, true, true, true, true, true, false, false, true, false, false, false] (by kernel_rfl) ?_
            refine wpAnyH_ready (rs := [11, 12]) (by kernel_rfl) (by simp) ?_
            refine AllReadyH.cons (o := ⟨some 21, Op.alloc 34, 0, _, _, none⟩) rfl (fun K hK => ?_) (?_)
            · go_simp
              have hC := (hH.push [.int .i64 0, .int .i64 0, .int .i64 0] 34)
              change Has w _ (w2.alloc (.cells #[.int .i64 0, .int .i64 0, .int .i64 0] 34)) at hC
              generalize w2.alloc (.cells #[.int .i64 0, .int .i64 0, .int .i64 0] 34) = W at *
              generalize w2.heap.size = U1 at *
              have hC' : Has w ([(U1, [.int .i64 0, .int .i64 0, .int .i64 0]), (U3, [.int .i64 0, .int .i64 0])] ++ [(Z4, [.int .i64 W0, .int .i64 W1, .int .i64 W2]), (Z3, [.int .i64 t0, .int .i64 t1, .int .i64 t2]), (Z2, [.int .i64 f0, .int .i64 f1, .int .i64 f2]), (Z1, [.int .i64 s0, .int .i64 s1, .int .i64 s2]), (N, [.int .i64 px, .int .i64 py]), (P, [.int .i64 A0, .int .i64 A1, .int .i64 A2]), (Q, [.int .i64 B0, .int .i64 B1, .int .i64 B2])]) W := hC
              refine hK.out _ _ (ms3.out _ (hC.tail.tail)) (fun _ => ?_)
              exact wpAnyH_cast rfl (by kernel_rfl) (by kernel_rfl) (ih ⟨some U1, none, some U3, 3⟩ _ (by simp only [Option.isSome, Bool.false_eq_true, if_false, if_true]; omega) ⟨by simp, hC⟩)
            refine AllReadyH.cons (o := ⟨some 22, Op.alloc 28, 0, _, _, none⟩) rfl (fun K hK => ?_) (AllReadyH.nil)
            · go_simp
              have hC := (hH.push [.int .i64 0, .int .i64 0] 28)
              change Has w _ (w2.alloc (.cells #[.int .i64 0, .int .i64 0] 28)) at hC
              generalize w2.alloc (.cells #[.int .i64 0, .int .i64 0] 28) = W at *
              generalize w2.heap.size = U2 at *
              have hC' : Has w ([(U2, [.int .i64 0, .int .i64 0]), (U3, [.int .i64 0, .int .i64 0])] ++ [(Z4, [.int .i64 W0, .int .i64 W1, .int .i64 W2]), (Z3, [.int .i64 t0, .int .i64 t1, .int .i64 t2]), (Z2, [.int .i64 f0, .int .i64 f1, .int .i64 f2]), (Z1, [.int .i64 s0, .int .i64 s1, .int .i64 s2]), (N, [.int .i64 px, .int .i64 py]), (P, [.int .i64 A0, .int .i64 A1, .int .i64 A2]), (Q, [.int .i64 B0, .int .i64 B1, .int .i64 B2])]) W := hC
              refine hK.out _ _ (ms3.out _ (hC.tail.tail)) (fun _ => ?_)
              exact wpAnyH_cast rfl (by kernel_rfl) (by kernel_rfl) (ih ⟨none, some U2, some U3, 3⟩ _ (by simp only [Option.isSome, Bool.false_eq_true, if_false, if_true]; omega) ⟨by simp, hC⟩)
        | some U2 =>
          cases pc with
          | none =>
            simp only [Option.isSome, Bool.false_eq_true, if_false, if_true] at hk
            simp only [putc, putp, Act.put, decide_eq_true_eq, decide_true, decide_false, Nat.le_refl, Nat.reduceLeDiff, List.setIfInBounds_toArray, List.set_cons_zero, List.set_cons_succ]
            refine wpAnyH_listed #[true, true, true, true, true, true, true, true, true, true, true, false, true, false, false, false, false] (by kernel_rfl) ?_
            refine wpAnyH_ready (rs := [11, 13]) (by kernel_rfl) (by simp) ?_
            refine AllReadyH.cons (o := ⟨some 21, Op.alloc 34, 0, _, _, none⟩) rfl (fun K hK => ?_) (?_)
            · go_simp
              have hC := (hH.push [.int .i64 0, .int .i64 0, .int .i64 0] 34)
              change Has w _ (w2.alloc (.cells #[.int .i64 0, .int .i64 0, .int .i64 0] 34)) at hC
              generalize w2.alloc (.cells #[.int .i64 0, .int .i64 0, .int .i64 0] 34) = W at *
              generalize w2.heap.size = U1 at *
              have hC' : Has w ([(U1, [.int .i64 0, .int .i64 0, .int .i64 0]), (U2, [.int .i64 0, .int .i64 0])] ++ [(Z4, [.int .i64 W0, .int .i64 W1, .int .i64 W2]), (Z3, [.int .i64 t0, .int .i64 t1, .int .i64 t2]), (Z2, [.int .i64 f0, .int .i64 f1, .int .i64 f2]), (Z1, [.int .i64 s0, .int .i64 s1, .int .i64 s2]), (N, [.int .i64 px, .int .i64 py]), (P, [.int .i64 A0, .int .i64 A1, .int .i64 A2]), (Q, [.int .i64 B0, .int .i64 B1, .int .i64 B2])]) W := hC
              refine hK.out _ _ (ms3.out _ (hC.tail.tail)) (fun _ => ?_)
              exact wpAnyH_cast rfl (by kernel_rfl) (by kernel_rfl) (ih ⟨some U1, some U2, none, 3⟩ _ (by simp only [Option.isSome, Bool.false_eq_true, if_false, if_true]; omega) ⟨by simp, hC⟩)
            refine AllReadyH.cons (o := ⟨some 23, Op.alloc 28, 0, _, _, none⟩) rfl (fun K hK => ?_) (AllReadyH.nil)
            · go_simp
              have hC := (hH.push [.int .i64 0, .int .i64 0] 28).swap
              change Has w _ (w2.alloc (.cells #[.int .i64 0, .int .i64 0] 28)) at hC
              generalize w2.alloc (.cells #[.int .i64 0, .int .i64 0] 28) = W at *
              generalize w2.heap.size = U3 at *
              have hC' : Has w ([(U2, [.int .i64 0, .int .i64 0]), (U3, [.int .i64 0, .int .i64 0])] ++ [(Z4, [.int .i64 W0, .int .i64 W1, .int .i64 W2]), (Z3, [.int .i64 t0, .int .i64 t1, .int .i64 t2]), (Z2, [.int .i64 f0, .int .i64 f1, .int .i64 f2]), (Z1, [.int .i64 s0, .int .i64 s1, .int .i64 s2]), (N, [.int .i64 px, .int .i64 py]), (P, [.int .i64 A0, .int .i64 A1, .int .i64 A2]), (Q, [.int .i64 B0, .int .i64 B1, .int .i64 B2])]) W := hC
              refine hK.out _ _ (ms3.out _ (hC.tail.tail)) (fun _ => ?_)
              exact wpAnyH_cast rfl (by kernel_rfl) (by kernel_rfl) (ih ⟨none, some U2, some U3, 3⟩ _ (by simp only [Option.isSome, Bool.false_eq_true, if_false, if_true]; omega) ⟨by simp, hC⟩)
          | some U3 =>
            simp only [Option.isSome, Bool.false_eq_true, if_false, if_true] at hk
            simp only [putc, putp, Act.put, decide_eq_true_eq, decide_true, decide_false, Nat.le_refl, Nat.reduceLeDiff, List.setIfInBounds_toArray, List.set_cons_zero, List.set_cons_succ]
            refine wpAnyH_listed #[true, true, true, true, true, true, true, true, true, true, true, false, true, true, false, false, false] (by kernel_rfl) ?_
            refine wpAnyH_ready (rs := [11]) (by kernel_rfl) (by simp) ?_
            refine AllReadyH.cons (o := ⟨some 21, Op.alloc 34, 0, _, _, none⟩) rfl (fun K hK => ?_) (AllReadyH.nil)
            · go_simp
              have hC := (hH.push [.int .i64 0, .int .i64 0, .int .i64 0] 34)
              change Has w _ (w2.alloc (.cells #[.int .i64 0, .int .i64 0, .int .i64 0] 34)) at hC
              generalize w2.alloc (.cells #[.int .i64 0, .int .i64 0, .int .i64 0] 34) = W at *
              generalize w2.heap.size = U1 at *
              have hC' : Has w ([(U1, [.int .i64 0, .int .i64 0, .int .i64 0]), (U2, [.int .i64 0, .int .i64 0]), (U3, [.int .i64 0, .int .i64 0])] ++ [(Z4, [.int .i64 W0, .int .i64 W1, .int .i64 W2]), (Z3, [.int .i64 t0, .int .i64 t1, .int .i64 t2]), (Z2, [.int .i64 f0, .int .i64 f1, .int .i64 f2]), (Z1, [.int .i64 s0, .int .i64 s1, .int .i64 s2]), (N, [.int .i64 px, .int .i64 py]), (P, [.int .i64 A0, .int .i64 A1, .int .i64 A2]), (Q, [.int .i64 B0, .int .i64 B1, .int .i64 B2])]) W := hC
              refine hK.out _ _ (ms3.out _ (hC.tail.tail.tail)) (fun _ => ?_)
              exact wpAnyH_cast rfl (by kernel_rfl) (by kernel_rfl) (ih ⟨some U1, some U2, some U3, 3⟩ _ (by simp only [Option.isSome, Bool.false_eq_true, if_false, if_true]; omega) ⟨by simp, hC⟩)
      | some U1 =>
        cases pb with
        | none =>
          cases pc with
          | none =>
            simp only [Option.isSome, Bool.false_eq_true, if_false, if_true] at hk
            simp only [putc, putp, Act.put, decide_eq_true_eq, decide_true, decide_false, Nat.le_refl, Nat.reduceLeDiff, List.setIfInBounds_toArray, List.set_cons_zero, List.set_cons_succ]
            refine wpAnyH_listed #[true, true, true, true, true, true, true, true, true, true, true, true, false, false, false, false, false] (by kernel_rfl) ?_
            refine wpAnyH_ready (rs := [12, 13]) (by kernel_rfl) (by simp) ?_
            refine AllReadyH.cons (o := ⟨some 22, Op.alloc 28, 0, _, _, none⟩) rfl (fun K hK => ?_) (?_)
            · go_simp
              have hC := (hH.push [.int .i64 0, .int .i64 0] 28).swap
              change Has w _ (w2.alloc (.cells #[.int .i64 0, .int .i64 0] 28)) at hC
              generalize w2.alloc (.cells #[.int .i64 0, .int .i64 0] 28) = W at *
              generalize w2.heap.size = U2 at *
              have hC' : Has w ([(U1, [.int .i64 0, .int .i64 0, .int .i64 0]), (U2, [.int .i64 0, .int .i64 0])] ++ [(Z4, [.int .i64 W0, .int .i64 W1, .int .i64 W2]), (Z3, [.int .i64 t0, .int .i64 t1, .int .i64 t2]), (Z2, [.int .i64 f0, .int .i64 f1, .int .i64 f2]), (Z1, [.int .i64 s0, .int .i64 s1, .int .i64 s2]), (N, [.int .i64 px, .int .i64 py]), (P, [.int .i64 A0, .int .i64 A1, .int .i64 A2]), (Q, [.int .i64 B0, .int .i64 B1, .int .i64 B2])]) W := hC
              refine hK.out _ _ (ms3.out _ (hC.tail.tail)) (fun _ => ?_)
              exact wpAnyH_cast rfl (by kernel_rfl) (by kernel_rfl) (ih ⟨some U1, some U2, none, 3⟩ _ (by simp only [Option.isSome, Bool.false_eq_true, if_false, if_true]; omega) ⟨by simp, hC⟩)
            refine AllReadyH.cons (o := ⟨some 23, Op.alloc 28, 0, _, _, none⟩) rfl (fun K hK => ?_) (AllReadyH.nil)
            · go_simp
              have hC := (hH.push [.int .i64 0, .int .i64 0] 28).swap
              change Has w _ (w2.alloc (.cells #[.int .i64 0, .int .i64 0] 28)) at hC
              generalize w2.alloc (.cells #[.int .i64 0, .int .i64 0] 28) = W at *
              generalize w2.heap.size = U3 at *
              have hC' : Has w ([(U1, [.int .i64 0, .int .i64 0, .int .i64 0]), (U3, [.int .i64 0, .int .i64 0])] ++ [(Z4, [.int .i64 W0, .int .i64 W1, .int .i64 W2]), (Z3, [.int .i64 t0, .int .i64 t1, .int .i64 t2]), (Z2, [.int .i64 f0, .int .i64 f1, .int .i64 f2]), (Z1, [.int .i64 s0, .int .i64 s1, .int .i64 s2]), (N, [.int .i64 px, .int .i64 py]), (P, [.int .i64 A0, .int .i64 A1, .int .i64 A2]), (Q, [.int .i64 B0, .int .i64 B1, .int .i64 B2])]) W := hC
              refine hK.out _ _ (ms3.out _ (hC.tail.tail)) (fun _ => ?_)
              exact wpAnyH_cast rfl (by kernel_rfl) (by kernel_rfl) (ih ⟨some U1, none, some U3, 3⟩ _ (by simp only [Option.isSome, Bool.false_eq_true, if_false, if_true]; omega) ⟨by simp, hC⟩)
          | some U3 =>
            simp only [Option.isSome, Bool.false_eq_true, if_false, if_true] at hk
            simp only [putc, putp, Act.put, decide_eq_true_eq, decide_true, decide_false, Nat.le_refl, Nat.reduceLeDiff, List.setIfInBounds_toArray, List.set_cons_zero, List.set_cons_succ]
            refine wpAnyH_listed #[true, true, true, true, true, true, true, true, true, true, true, true, false, true, false, false, false] (by kernel_rfl) ?_
            refine wpAnyH_ready (rs := [12]) (by kernel_rfl) (by simp) ?_
            refine AllReadyH.cons (o := ⟨some 22, Op.alloc 28, 0, _, _, none⟩) rfl (fun K hK => ?_) (AllReadyH.nil)
            · go_simp
              have hC := (hH.push [.int .i64 0, .int .i64 0] 28).swap
              change Has w _ (w2.alloc (.cells #[.int .i64 0, .int .i64 0] 28)) at hC
              generalize w2.alloc (.cells #[.int .i64 0, .int .i64 0] 28) = W at *
              generalize w2.heap.size = U2 at *
              have hC' : Has w ([(U1, [.int .i64 0, .int .i64 0, .int .i64 0]), (U2, [.int .i64 0, .int .i64 0]), (U3, [.int .i64 0, .int .i64 0])] ++ [(Z4, [.int .i64 W0, .int .i64 W1, .int .i64 W2]), (Z3, [.int .i64 t0, .int .i64 t1, .int .i64 t2]), (Z2, [.int .i64 f0, .int .i64 f1, .int .i64 f2]), (Z1, [.int .i64 s0, .int .i64 s1, .int .i64 s2]), (N, [.int .i64 px, .int .i64 py]), (P, [.int .i64 A0, .int .i64 A1, .int .i64 A2]), (Q, [.int .i64 B0, .int .i64 B1, .int .i64 B2])]) W := hC
              refine hK.out _ _ (ms3.out _ (hC.tail.tail.tail)) (fun _ => ?_)
              exact wpAnyH_cast rfl (by kernel_rfl) (by kernel_rfl) (ih ⟨some U1, some U2, some U3, 3⟩ _ (by simp only [Option.isSome, Bool.false_eq_true, if_false, if_true]; omega) ⟨by simp, hC⟩)
        | some U2 =>
          cases pc with
          | none =>
            simp only [Option.isSome, Bool.false_eq_true, if_false, if_true] at hk
            simp only [putc, putp, Act.put, decide_eq_true_eq, decide_true, decide_false, Nat.le_refl, Nat.reduceLeDiff, List.setIfInBounds_toArray, List.set_cons_zero, List.set_cons_succ]
            refine wpAnyH_listed #[true, true, true, true, true, true, true, true, true, true, true, true, true, false, false, false, false] (by kernel_rfl) ?_
            refine wpAnyH_ready (rs := [13]) (by kernel_rfl) (by simp) ?_
            refine AllReadyH.cons (o := ⟨some 23, Op.alloc 28, 0, _, _, none⟩) rfl (fun K hK => ?_) (AllReadyH.nil)
            · go_simp
              have hC := (hH.push [.int .i64 0, .int .i64 0] 28).third.third
              change Has w _ (w2.alloc (.cells #[.int .i64 0, .int .i64 0] 28)) at hC
              generalize w2.alloc (.cells #[.int .i64 0, .int .i64 0] 28) = W at *
              generalize w2.heap.size = U3 at *
              have hC' : Has w ([(U1, [.int .i64 0, .int .i64 0, .int .i64 0]), (U2, [.int .i64 0, .int .i64 0]), (U3, [.int .i64 0, .int .i64 0])] ++ [(Z4, [.int .i64 W0, .int .i64 W1, .int .i64 W2]), (Z3, [.int .i64 t0, .int .i64 t1, .int .i64 t2]), (Z2, [.int .i64 f0, .int .i64 f1, .int .i64 f2]), (Z1, [.int .i64 s0, .int .i64 s1, .int .i64 s2]), (N, [.int .i64 px, .int .i64 py]), (P, [.int .i64 A0, .int .i64 A1, .int .i64 A2]), (Q, [.int .i64 B0, .int .i64 B1, .int .i64 B2])]) W := hC
              refine hK.out _ _ (ms3.out _ (hC.tail.tail.tail)) (fun _ => ?_)
              exact wpAnyH_cast rfl (by kernel_rfl) (by kernel_rfl) (ih ⟨some U1, some U2, some U3, 3⟩ _ (by simp only [Option.isSome, Bool.false_eq_true, if_false, if_true]; omega) ⟨by simp, hC⟩)
          | some U3 =>
            exact absurd hk (by simp)
  rintro ⟨pa, pb, pc, c⟩ w2 hk ⟨hc, hH⟩
  obtain ⟨U1, U2, U3, rfl, rfl, rfl, rfl⟩ : ∃ U1 U2 U3, pa = some U1 ∧ pb = some U2 ∧ pc = some U3 ∧ c = 3 := by
    cases pa <;> cases pb <;> cases pc <;> simp only [Option.isSome, Bool.false_eq_true, if_false, if_true] at hk <;> simp only at hc <;> first | exact ⟨_, _, _, rfl, rfl, rfl, by omega⟩ | omega
  simp only [putc, putp, Act.put, decide_eq_true_eq, decide_true, decide_false, Nat.le_refl, Nat.reduceLeDiff, List.setIfInBounds_toArray, List.set_cons_zero, List.set_cons_succ]
  have XA := hH
  change Has w [(U1, [.int .i64 0, .int .i64 0, .int .i64 0]), (U2, [.int .i64 0, .int .i64 0]), (U3, [.int .i64 0, .int .i64 0]), (Z4, [.int .i64 W0, .int .i64 W1, .int .i64 W2]), (Z3, [.int .i64 t0, .int .i64 t1, .int .i64 t2]), (Z2, [.int .i64 f0, .int .i64 f1, .int .i64 f2]), (Z1, [.int .i64 s0, .int .i64 s1, .int .i64 s2]), (N, [.int .i64 px, .int .i64 py]), (P, [.int .i64 A0, .int .i64 A1, .int .i64 A2]), (Q, [.int .i64 B0, .int .i64 B1, .int .i64 B2])] w2 at XA
  clear hH hk hc
  refine wpAnyH_listed #[true, true, true, true, true, true, true, true, true, true, true, true, true, true, false, false, false] (by kernel_rfl) ?_
  refine wpAnyH_ready (rs := [14]) (by kernel_rfl) (by simp) ?_
  refine AllReadyH.cons (o := ⟨none, Op.store 34 (Operand.tmp 21) (Operand.tmp 136), 0, _, _, none⟩) rfl (fun K hK => ?_) AllReadyH.nil
  have sk0 := XA.fact (.head _) (i := 0) rfl
  have sk1 := XA.fact (.head _) (i := 1) rfl
  have sk2 := XA.fact (.head _) (i := 2) rfl
  have sf0 := XA.free (.head _) (i := 0) rfl
  have sf1 := XA.free (.head _) (i := 1) rfl
  have sf2 := XA.free (.head _) (i := 2) rfl
  go_simp
  have XA0 : Has w [(U1, [.int .i64 px, .int .i64 py, .int .i64 1]), (U2, [.int .i64 0, .int .i64 0]), (U3, [.int .i64 0, .int .i64 0]), (Z4, [.int .i64 W0, .int .i64 W1, .int .i64 W2]), (Z3, [.int .i64 t0, .int .i64 t1, .int .i64 t2]), (Z2, [.int .i64 f0, .int .i64 f1, .int .i64 f2]), (Z1, [.int .i64 s0, .int .i64 s1, .int .i64 s2]), (N, [.int .i64 px, .int .i64 py]), (P, [.int .i64 A0, .int .i64 A1, .int .i64 A2]), (Q, [.int .i64 B0, .int .i64 B1, .int .i64 B2])] (World.setCell (World.setCell (World.setCell w2 ⟨U1, 0, none⟩ (.int .i64 px)) ⟨U1, 1, none⟩ (.int .i64 py)) ⟨U1, 2, none⟩ (.int .i64 1)) := (XA.set3 (.int .i64 px) (.int .i64 py) (.int .i64 1))
  generalize (World.setCell (World.setCell (World.setCell w2 ⟨U1, 0, none⟩ (.int .i64 px)) ⟨U1, 1, none⟩ (.int .i64 py)) ⟨U1, 2, none⟩ (.int .i64 1)) = wA0 at *
  clear sk0 sf0 sk1 sf1 sk2 sf2 XA
  clear hHeld
  refine hK.out _ _ (ms3.out _ XA0.tail.tail.tail) (fun hHeld => ?_)
  clear hK K
  try simp only [List.setIfInBounds_toArray, List.set_cons_zero, List.set_cons_succ]
  refine wpAnyH_listed #[true, true, true, true, true, true, true, true, true, true, true, true, true, true, true, false, false] (by kernel_rfl) ?_
  refine wpAnyH_ready (rs := [15]) (by kernel_rfl) (by simp) ?_
  refine AllReadyH.cons (o := ⟨none, Op.store 28 (Operand.tmp 22) (Operand.tmp 138), 0, _, _, none⟩) rfl (fun K hK => ?_) AllReadyH.nil
  have sk0 := XA0.tail.fact (.head _) (i := 0) rfl
  have sk1 := XA0.tail.fact (.head _) (i := 1) rfl
  have sf0 := XA0.tail.free (.head _) (i := 0) rfl
  have sf1 := XA0.tail.free (.head _) (i := 1) rfl
  go_simp
  have XA1 : Has w [(U1, [.int .i64 px, .int .i64 py, .int .i64 1]), (U2, [.int .i64 u0, .int .i64 u1]), (U3, [.int .i64 0, .int .i64 0]), (Z4, [.int .i64 W0, .int .i64 W1, .int .i64 W2]), (Z3, [.int .i64 t0, .int .i64 t1, .int .i64 t2]), (Z2, [.int .i64 f0, .int .i64 f1, .int .i64 f2]), (Z1, [.int .i64 s0, .int .i64 s1, .int .i64 s2]), (N, [.int .i64 px, .int .i64 py]), (P, [.int .i64 A0, .int .i64 A1, .int .i64 A2]), (Q, [.int .i64 B0, .int .i64 B1, .int .i64 B2])] (World.setCell (World.setCell wA0 ⟨U2, 0, none⟩ (.int .i64 u0)) ⟨U2, 1, none⟩ (.int .i64 u1)) := (XA0.swap.set2 (.int .i64 u0) (.int .i64 u1)).swap
  generalize (World.setCell (World.setCell wA0 ⟨U2, 0, none⟩ (.int .i64 u0)) ⟨U2, 1, none⟩ (.int .i64 u1)) = wA1 at *
  clear sk0 sf0 sk1 sf1 XA0
  clear hHeld
  refine hK.out _ _ (ms3.out _ XA1.tail.tail.tail) (fun hHeld => ?_)
  clear hK K
  try simp only [List.setIfInBounds_toArray, List.set_cons_zero, List.set_cons_succ]
  refine wpAnyH_listed #[true, true, true, true, true, true, true, true, true, true, true, true, true, true, true, true, false] (by kernel_rfl) ?_
  refine wpAnyH_ready (rs := [16]) (by kernel_rfl) (by simp) ?_
  refine AllReadyH.cons (o := ⟨none, Op.store 28 (Operand.tmp 23) (Operand.tmp 145), 0, _, _, none⟩) rfl (fun K hK => ?_) AllReadyH.nil
  have sk0 := XA1.tail.tail.fact (.head _) (i := 0) rfl
  have sk1 := XA1.tail.tail.fact (.head _) (i := 1) rfl
  have sf0 := XA1.tail.tail.free (.head _) (i := 0) rfl
  have sf1 := XA1.tail.tail.free (.head _) (i := 1) rfl
  go_simp
  have R1 : Has w [(U1, [.int .i64 px, .int .i64 py, .int .i64 1]), (U2, [.int .i64 u0, .int .i64 u1]), (U3, [.int .i64 v0, .int .i64 v1]), (Z4, [.int .i64 W0, .int .i64 W1, .int .i64 W2]), (Z3, [.int .i64 t0, .int .i64 t1, .int .i64 t2]), (Z2, [.int .i64 f0, .int .i64 f1, .int .i64 f2]), (Z1, [.int .i64 s0, .int .i64 s1, .int .i64 s2]), (N, [.int .i64 px, .int .i64 py]), (P, [.int .i64 A0, .int .i64 A1, .int .i64 A2]), (Q, [.int .i64 B0, .int .i64 B1, .int .i64 B2])] (World.setCell (World.setCell wA1 ⟨U3, 0, none⟩ (.int .i64 v0)) ⟨U3, 1, none⟩ (.int .i64 v1)) := (XA1.third.set2 (.int .i64 v0) (.int .i64 v1)).third.third
  generalize (World.setCell (World.setCell wA1 ⟨U3, 0, none⟩ (.int .i64 v0)) ⟨U3, 1, none⟩ (.int .i64 v1)) = y7 at *
  clear sk0 sf0 sk1 sf1 XA1
  clear hHeld
  refine hK.out _ _ (ms3.out _ R1.tail.tail.tail) (fun hHeld => ?_)
  clear hK K
  try simp only [List.setIfInBounds_toArray, List.set_cons_zero, List.set_cons_succ]
  refine wpAnyH_listed #[true, true, true, true, true, true, true, true, true, true, true, true, true, true, true, true, true] (by kernel_rfl) ?_
  refine wpAnyH_done (by kernel_rfl) ?_ _
  try clear hHeld
  clear X0 Y4 ms3
  go_upto_region 15 with fail
  have R2 := R1.drew
  have ms4 := Lib.hid (show ∀ w', Has w [(U1, [.int .i64 px, .int .i64 py, .int .i64 1]), (U2, [.int .i64 u0, .int .i64 u1]), (U3, [.int .i64 v0, .int .i64 v1]), (Z4, [.int .i64 W0, .int .i64 W1, .int .i64 W2]), (Z3, [.int .i64 t0, .int .i64 t1, .int .i64 t2]), (Z2, [.int .i64 f0, .int .i64 f1, .int .i64 f2]), (Z1, [.int .i64 s0, .int .i64 s1, .int .i64 s2]), (N, [.int .i64 px, .int .i64 py]), (P, [.int .i64 A0, .int .i64 A1, .int .i64 A2]), (Q, [.int .i64 B0, .int .i64 B1, .int .i64 B2])] w' → (w'.cell? ⟨U1, 0, none⟩ = some (.int .i64 px) ∧ w'.cell? ⟨U1, 1, none⟩ = some (.int .i64 py) ∧ w'.cell? ⟨U1, 2, none⟩ = some (.int .i64 1) ∧ w'.cell? ⟨U2, 0, none⟩ = some (.int .i64 u0) ∧ w'.cell? ⟨U2, 1, none⟩ = some (.int .i64 u1) ∧ w'.cell? ⟨U3, 0, none⟩ = some (.int .i64 v0) ∧ w'.cell? ⟨U3, 1, none⟩ = some (.int .i64 v1) ∧ w'.cell? ⟨N, 0, none⟩ = some (.int .i64 px) ∧ w'.cell? ⟨N, 1, none⟩ = some (.int .i64 py)) ∧ Has w [(U1, [.int .i64 px, .int .i64 py, .int .i64 1]), (U2, [.int .i64 u0, .int .i64 u1]), (U3, [.int .i64 v0, .int .i64 v1]), (Z4, [.int .i64 W0, .int .i64 W1, .int .i64 W2]), (Z3, [.int .i64 t0, .int .i64 t1, .int .i64 t2]), (Z2, [.int .i64 f0, .int .i64 f1, .int .i64 f2]), (Z1, [.int .i64 s0, .int .i64 s1, .int .i64 s2]), (N, [.int .i64 px, .int .i64 py]), (P, [.int .i64 A0, .int .i64 A1, .int .i64 A2]), (Q, [.int .i64 B0, .int .i64 B1, .int .i64 B2])] w' from fun w' h => ⟨⟨h.fact (.head _) (i := 0) rfl, h.fact (.head _) (i := 1) rfl, h.fact (.head _) (i := 2) rfl, h.tail.fact (.head _) (i := 0) rfl, h.tail.fact (.head _) (i := 1) rfl, h.tail.tail.fact (.head _) (i := 0) rfl, h.tail.tail.fact (.head _) (i := 1) rfl, h.tail.tail.tail.tail.tail.tail.tail.fact (.head _) (i := 0) rfl, h.tail.tail.tail.tail.tail.tail.tail.fact (.head _) (i := 1) rfl⟩, h⟩)
  refine wp_region_held_drew (S := (fun w' => (w'.cell? ⟨U1, 0, none⟩ = some (.int .i64 px) ∧ w'.cell? ⟨U1, 1, none⟩ = some (.int .i64 py) ∧ w'.cell? ⟨U1, 2, none⟩ = some (.int .i64 1) ∧ w'.cell? ⟨U2, 0, none⟩ = some (.int .i64 u0) ∧ w'.cell? ⟨U2, 1, none⟩ = some (.int .i64 u1) ∧ w'.cell? ⟨U3, 0, none⟩ = some (.int .i64 v0) ∧ w'.cell? ⟨U3, 1, none⟩ = some (.int .i64 v1) ∧ w'.cell? ⟨N, 0, none⟩ = some (.int .i64 px) ∧ w'.cell? ⟨N, 1, none⟩ = some (.int .i64 py)) ∧ Has w [(U1, [.int .i64 px, .int .i64 py, .int .i64 1]), (U2, [.int .i64 u0, .int .i64 u1]), (U3, [.int .i64 v0, .int .i64 v1]), (Z4, [.int .i64 W0, .int .i64 W1, .int .i64 W2]), (Z3, [.int .i64 t0, .int .i64 t1, .int .i64 t2]), (Z2, [.int .i64 f0, .int .i64 f1, .int .i64 f2]), (Z1, [.int .i64 s0, .int .i64 s1, .int .i64 s2]), (N, [.int .i64 px, .int .i64 py]), (P, [.int .i64 A0, .int .i64 A1, .int .i64 A2]), (Q, [.int .i64 B0, .int .i64 B1, .int .i64 B2])] w')) (by kernel_rfl) (ms4.out _ R2) (fun hHeld => ?_)
  refine wpAnyT_begin [0, 2, 4, 6, 7, 8] (by kernel_rfl) (by kernel_rfl) ?_
  refine wpAnyT_take (oi := ⟨some 146, Op.load 28 (Operand.tmp 22), 28, _, _, none⟩) (v := .agg #[.int .i64 u0, .int .i64 u1]) rfl (fun _ _ _ h => h) (by rfl) (by assumption) (fun wS hSw => ?_) ?_
  · (try dsimp only at hSw); go_simp
  simp only [Act.put, List.setIfInBounds_toArray, List.set_cons_zero, List.set_cons_succ]
  refine wpAnyT_take (oi := ⟨some 148, Op.load 28 (Operand.tmp 23), 28, _, _, none⟩) (v := .agg #[.int .i64 v0, .int .i64 v1]) rfl (fun _ _ _ h => h) (by rfl) (by assumption) (fun wS hSw => ?_) ?_
  · (try dsimp only at hSw); go_simp
  simp only [Act.put, List.setIfInBounds_toArray, List.set_cons_zero, List.set_cons_succ]
  refine wpAnyT_take (oi := ⟨some 150, Op.load 34 (Operand.tmp 21), 34, _, _, none⟩) (v := .agg #[.int .i64 px, .int .i64 py, .int .i64 1]) rfl (fun _ _ _ h => h) (by rfl) (by assumption) (fun wS hSw => ?_) ?_
  · (try dsimp only at hSw); go_simp
  simp only [Act.put, List.setIfInBounds_toArray, List.set_cons_zero, List.set_cons_succ]
  refine wpAnyT_take (oi := ⟨some 152, Op.load 28 (Operand.tmp 22), 28, _, _, none⟩) (v := .agg #[.int .i64 u0, .int .i64 u1]) rfl (fun _ _ _ h => h) (by rfl) (by assumption) (fun wS hSw => ?_) ?_
  · (try dsimp only at hSw); go_simp
  simp only [Act.put, List.setIfInBounds_toArray, List.set_cons_zero, List.set_cons_succ]
  refine wpAnyT_take (oi := ⟨some 153, Op.load 28 (Operand.tmp 23), 28, _, _, none⟩) (v := .agg #[.int .i64 v0, .int .i64 v1]) rfl (fun _ _ _ h => h) (by rfl) (by assumption) (fun wS hSw => ?_) ?_
  · (try dsimp only at hSw); go_simp
  simp only [Act.put, List.setIfInBounds_toArray, List.set_cons_zero, List.set_cons_succ]
  refine wpAnyT_take (oi := ⟨some 154, Op.load 28 (Operand.tmp 4), 28, _, _, none⟩) (v := .agg #[.int .i64 px, .int .i64 py]) rfl (fun _ _ _ h => h) (by rfl) (by assumption) (fun wS hSw => ?_) ?_
  · (try dsimp only at hSw); go_simp
  simp only [Act.put, List.setIfInBounds_toArray, List.set_cons_zero, List.set_cons_succ]
  refine wpAnyT_end ?_
  refine wpAnyH_listed #[true, false, true, false, true, false, true, true, true, false, false, false] (by kernel_rfl) ?_
  refine wpAnyH_ready (rs := [1]) (by kernel_rfl) (by simp) ?_
  refine AllReadyH.cons (o := ⟨some 147, Op.call { callee := Callee.value (Operand.func 22), args := #[Operand.tmp 146], argTypes := #[28] }, 34, _, _, none⟩) rfl (fun K hK => ?_) AllReadyH.nil
  go_simp
  go_at_call 22
  refine (Has.call R2 (spotOf_any u0 u1 _)).mono ?_
  rintro e Wa ⟨rfl, R3⟩
  go_wp2_with fail
  clear hHeld
  refine hK.out _ _ (ms4.out _ R3) (fun hHeld => ?_)
  clear hK K
  try simp only [List.setIfInBounds_toArray, List.set_cons_zero, List.set_cons_succ]
  refine wpAnyH_listed #[true, true, true, false, true, false, true, true, true, false, false, false] (by kernel_rfl) ?_
  refine wpAnyH_ready (rs := [3]) (by kernel_rfl) (by simp) ?_
  refine AllReadyH.cons (o := ⟨some 149, Op.call { callee := Callee.value (Operand.func 22), args := #[Operand.tmp 148], argTypes := #[28] }, 34, _, _, none⟩) rfl (fun K hK => ?_) AllReadyH.nil
  go_simp
  go_at_call 22
  refine (Has.call R3 (spotOf_any v0 v1 _)).mono ?_
  rintro e Wb ⟨rfl, R4⟩
  go_wp2_with fail
  clear hHeld
  refine hK.out _ _ (ms4.out _ R4) (fun hHeld => ?_)
  clear hK K
  try simp only [List.setIfInBounds_toArray, List.set_cons_zero, List.set_cons_succ]
  refine wpAnyH_listed #[true, true, true, true, true, false, true, true, true, false, false, false] (by kernel_rfl) ?_
  refine wpAnyH_ready (rs := [5]) (by kernel_rfl) (by simp) ?_
  refine AllReadyH.cons (o := ⟨some 151, Op.call { callee := Callee.value (Operand.func 40), args := #[Operand.tmp 147, Operand.tmp 149, Operand.tmp 150], argTypes := #[34, 34, 34] }, 3, _, _, none⟩) rfl (fun K hK => ?_) AllReadyH.nil
  go_simp
  go_at_call 40
  refine (Has.call R4 (spotSide_is u0 u1 1 v0 v1 1 px py 1 sp H_g1.out _)).mono ?_
  rintro e Wc ⟨rfl, R5⟩
  go_wp2_with fail
  clear hHeld
  refine hK.out _ _ (ms4.out _ R5) (fun hHeld => ?_)
  clear hK K
  try simp only [List.setIfInBounds_toArray, List.set_cons_zero, List.set_cons_succ]
  refine wpAnyH_listed #[true, true, true, true, true, true, true, true, true, false, false, false] (by kernel_rfl) ?_
  refine wpAnyH_ready (rs := [9]) (by kernel_rfl) (by simp) ?_
  refine AllReadyH.cons (o := ⟨some 155, Op.call { callee := Callee.value (Operand.func 30), args := #[Operand.tmp 152, Operand.tmp 153, Operand.tmp 154], argTypes := #[28, 28, 28] }, 3, _, _, none⟩) rfl (fun K hK => ?_) AllReadyH.nil
  go_simp
  go_at_call 30
  refine (Has.call R5 (side_is u0 u1 v0 v1 px py sp H_hsp.out _)).mono ?_
  rintro e Wd ⟨rfl, R6⟩
  go_wp2_with fail
  clear hHeld
  refine hK.out _ _ (ms4.out _ R6) (fun hHeld => ?_)
  clear hK K
  try simp only [List.setIfInBounds_toArray, List.set_cons_zero, List.set_cons_succ]
  refine wpAnyH_listed #[true, true, true, true, true, true, true, true, true, true, false, false] (by kernel_rfl) ?_
  refine wpAnyT_begin [10, 11] (by kernel_rfl) (by kernel_rfl) ?_
  refine wpAnyT_take (oi := ⟨some 156, Op.binOp BinOp.eql 3 (Operand.tmp 151) (Operand.tmp 155) 3, 4, _, _, none⟩) (v := .bool true) rfl (fun _ _ _ h => h) (by rfl) (by assumption) (fun wS hSw => ?_) ?_
  · (try dsimp only at hSw); go_simp
  simp only [Act.put, List.setIfInBounds_toArray, List.set_cons_zero, List.set_cons_succ]
  refine wpAnyT_take (oi := ⟨some 24, Op.assign (Operand.tmp 156), 4, _, _, none⟩) (v := .bool true) rfl (fun _ _ _ h => h) (by rfl) (by assumption) (fun wS hSw => ?_) ?_
  · (try dsimp only at hSw); go_simp
  simp only [Act.put, List.setIfInBounds_toArray, List.set_cons_zero, List.set_cons_succ]
  refine wpAnyT_end ?_
  refine wpAnyH_listed #[true, true, true, true, true, true, true, true, true, true, true, true] (by kernel_rfl) ?_
  refine wpAnyH_done (by kernel_rfl) ?_ _
  clear R1 R2 R3 R4 R5 ms4 hHeld
  have a0 := R6.tail.tail.tail.tail.tail.tail.tail.tail.fact (.head _) (i := 0) rfl
  have a1 := R6.tail.tail.tail.tail.tail.tail.tail.tail.fact (.head _) (i := 1) rfl
  have a2 := R6.tail.tail.tail.tail.tail.tail.tail.tail.fact (.head _) (i := 2) rfl
  have b0 := R6.tail.tail.tail.tail.tail.tail.tail.tail.tail.fact (.head _) (i := 0) rfl
  have b1 := R6.tail.tail.tail.tail.tail.tail.tail.tail.tail.fact (.head _) (i := 1) rfl
  have b2 := R6.tail.tail.tail.tail.tail.tail.tail.tail.tail.fact (.head _) (i := 2) rfl
  have c0 := R6.tail.tail.tail.tail.tail.fact (.head _) (i := 0) rfl
  have c1 := R6.tail.tail.tail.tail.tail.fact (.head _) (i := 1) rfl
  have c2 := R6.tail.tail.tail.tail.tail.fact (.head _) (i := 2) rfl
  have d0 := R6.tail.tail.tail.tail.fact (.head _) (i := 0) rfl
  have d1 := R6.tail.tail.tail.tail.fact (.head _) (i := 1) rfl
  have d2 := R6.tail.tail.tail.tail.fact (.head _) (i := 2) rfl
  go_upto_region 17 with fail
  clear a0 a1 a2 b0 b1 b2 c0 c1 c2 d0 d1 d2
  have Q0 := R6.drew
  have ms5 := Lib.hid (show ∀ w', Has w [(U1, [.int .i64 px, .int .i64 py, .int .i64 1]), (U2, [.int .i64 u0, .int .i64 u1]), (U3, [.int .i64 v0, .int .i64 v1]), (Z4, [.int .i64 W0, .int .i64 W1, .int .i64 W2]), (Z3, [.int .i64 t0, .int .i64 t1, .int .i64 t2]), (Z2, [.int .i64 f0, .int .i64 f1, .int .i64 f2]), (Z1, [.int .i64 s0, .int .i64 s1, .int .i64 s2]), (N, [.int .i64 px, .int .i64 py]), (P, [.int .i64 A0, .int .i64 A1, .int .i64 A2]), (Q, [.int .i64 B0, .int .i64 B1, .int .i64 B2])] w' → (w'.cell? ⟨U1, 0, none⟩ = some (.int .i64 px) ∧ w'.cell? ⟨U1, 1, none⟩ = some (.int .i64 py) ∧ w'.cell? ⟨U1, 2, none⟩ = some (.int .i64 1) ∧ w'.cell? ⟨Z4, 0, none⟩ = some (.int .i64 W0) ∧ w'.cell? ⟨Z4, 1, none⟩ = some (.int .i64 W1) ∧ w'.cell? ⟨Z4, 2, none⟩ = some (.int .i64 W2) ∧ w'.cell? ⟨Z1, 0, none⟩ = some (.int .i64 s0) ∧ w'.cell? ⟨Z1, 1, none⟩ = some (.int .i64 s1) ∧ w'.cell? ⟨Z1, 2, none⟩ = some (.int .i64 s2) ∧ w'.cell? ⟨P, 0, none⟩ = some (.int .i64 A0) ∧ w'.cell? ⟨P, 1, none⟩ = some (.int .i64 A1) ∧ w'.cell? ⟨P, 2, none⟩ = some (.int .i64 A2) ∧ w'.cell? ⟨Q, 0, none⟩ = some (.int .i64 B0) ∧ w'.cell? ⟨Q, 1, none⟩ = some (.int .i64 B1) ∧ w'.cell? ⟨Q, 2, none⟩ = some (.int .i64 B2)) ∧ Has w [(U1, [.int .i64 px, .int .i64 py, .int .i64 1]), (U2, [.int .i64 u0, .int .i64 u1]), (U3, [.int .i64 v0, .int .i64 v1]), (Z4, [.int .i64 W0, .int .i64 W1, .int .i64 W2]), (Z3, [.int .i64 t0, .int .i64 t1, .int .i64 t2]), (Z2, [.int .i64 f0, .int .i64 f1, .int .i64 f2]), (Z1, [.int .i64 s0, .int .i64 s1, .int .i64 s2]), (N, [.int .i64 px, .int .i64 py]), (P, [.int .i64 A0, .int .i64 A1, .int .i64 A2]), (Q, [.int .i64 B0, .int .i64 B1, .int .i64 B2])] w' from fun w' h => ⟨⟨h.fact (.head _) (i := 0) rfl, h.fact (.head _) (i := 1) rfl, h.fact (.head _) (i := 2) rfl, h.tail.tail.tail.fact (.head _) (i := 0) rfl, h.tail.tail.tail.fact (.head _) (i := 1) rfl, h.tail.tail.tail.fact (.head _) (i := 2) rfl, h.tail.tail.tail.tail.tail.tail.fact (.head _) (i := 0) rfl, h.tail.tail.tail.tail.tail.tail.fact (.head _) (i := 1) rfl, h.tail.tail.tail.tail.tail.tail.fact (.head _) (i := 2) rfl, h.tail.tail.tail.tail.tail.tail.tail.tail.fact (.head _) (i := 0) rfl, h.tail.tail.tail.tail.tail.tail.tail.tail.fact (.head _) (i := 1) rfl, h.tail.tail.tail.tail.tail.tail.tail.tail.fact (.head _) (i := 2) rfl, h.tail.tail.tail.tail.tail.tail.tail.tail.tail.fact (.head _) (i := 0) rfl, h.tail.tail.tail.tail.tail.tail.tail.tail.tail.fact (.head _) (i := 1) rfl, h.tail.tail.tail.tail.tail.tail.tail.tail.tail.fact (.head _) (i := 2) rfl⟩, h⟩)
  refine wp_region_held_drew (S := (fun w' => (w'.cell? ⟨U1, 0, none⟩ = some (.int .i64 px) ∧ w'.cell? ⟨U1, 1, none⟩ = some (.int .i64 py) ∧ w'.cell? ⟨U1, 2, none⟩ = some (.int .i64 1) ∧ w'.cell? ⟨Z4, 0, none⟩ = some (.int .i64 W0) ∧ w'.cell? ⟨Z4, 1, none⟩ = some (.int .i64 W1) ∧ w'.cell? ⟨Z4, 2, none⟩ = some (.int .i64 W2) ∧ w'.cell? ⟨Z1, 0, none⟩ = some (.int .i64 s0) ∧ w'.cell? ⟨Z1, 1, none⟩ = some (.int .i64 s1) ∧ w'.cell? ⟨Z1, 2, none⟩ = some (.int .i64 s2) ∧ w'.cell? ⟨P, 0, none⟩ = some (.int .i64 A0) ∧ w'.cell? ⟨P, 1, none⟩ = some (.int .i64 A1) ∧ w'.cell? ⟨P, 2, none⟩ = some (.int .i64 A2) ∧ w'.cell? ⟨Q, 0, none⟩ = some (.int .i64 B0) ∧ w'.cell? ⟨Q, 1, none⟩ = some (.int .i64 B1) ∧ w'.cell? ⟨Q, 2, none⟩ = some (.int .i64 B2)) ∧ Has w [(U1, [.int .i64 px, .int .i64 py, .int .i64 1]), (U2, [.int .i64 u0, .int .i64 u1]), (U3, [.int .i64 v0, .int .i64 v1]), (Z4, [.int .i64 W0, .int .i64 W1, .int .i64 W2]), (Z3, [.int .i64 t0, .int .i64 t1, .int .i64 t2]), (Z2, [.int .i64 f0, .int .i64 f1, .int .i64 f2]), (Z1, [.int .i64 s0, .int .i64 s1, .int .i64 s2]), (N, [.int .i64 px, .int .i64 py]), (P, [.int .i64 A0, .int .i64 A1, .int .i64 A2]), (Q, [.int .i64 B0, .int .i64 B1, .int .i64 B2])] w')) (by kernel_rfl) (ms5.out _ Q0) (fun hHeld => ?_)
  refine wpAnyT_begin [0, 1, 2, 3, 4, 5, 6, 7, 8, 9, 10, 11, 12, 13, 14] (by kernel_rfl) (by kernel_rfl) ?_
  refine wpAnyT_take (oi := ⟨some 207, Op.move (Operand.tmp 7), 4, _, _, none⟩) (v := .bool true) rfl (fun _ _ _ h => h) (by rfl) (by assumption) (fun wS hSw => ?_) ?_
  · (try dsimp only at hSw); go_simp
  simp only [Act.put, List.setIfInBounds_toArray, List.set_cons_zero, List.set_cons_succ]
  refine wpAnyT_take (oi := ⟨some 208, Op.move (Operand.tmp 207), 4, _, _, none⟩) (v := .bool true) rfl (fun _ _ _ h => h) (by rfl) (by assumption) (fun wS hSw => ?_) ?_
  · (try dsimp only at hSw); go_simp
  simp only [Act.put, List.setIfInBounds_toArray, List.set_cons_zero, List.set_cons_succ]
  refine wpAnyT_take (oi := ⟨some 209, Op.move (Operand.tmp 18), 3, _, _, some (1, true)⟩) (v := .int .i64 1) rfl (fun _ _ _ h => h) (by rfl) (by assumption) (fun wS hSw => ?_) ?_
  · (try dsimp only at hSw); go_simp
  simp only [Act.put, List.setIfInBounds_toArray, List.set_cons_zero, List.set_cons_succ]
  refine wpAnyT_take (oi := ⟨some 210, Op.binOp BinOp.eql 3 (Operand.tmp 209) (Operand.const (Value.int IntKind.i64 1)) 3, 4, _, _, some (1, true)⟩) (v := .bool true) rfl (fun _ _ _ h => h) (by rfl) (by assumption) (fun wS hSw => ?_) ?_
  · (try dsimp only at hSw); go_simp
  simp only [Act.put, List.setIfInBounds_toArray, List.set_cons_zero, List.set_cons_succ]
  refine wpAnyT_take (oi := ⟨some 211, Op.pick (Operand.tmp 208) (Operand.tmp 210) (Operand.const (Value.bool false)), 4, _, _, none⟩) (v := .bool true) rfl (fun _ _ _ h => h) (by rfl) (by assumption) (fun wS hSw => ?_) ?_
  · (try dsimp only at hSw); go_simp
  simp only [Act.put, List.setIfInBounds_toArray, List.set_cons_zero, List.set_cons_succ]
  refine wpAnyT_take (oi := ⟨some 212, Op.move (Operand.tmp 211), 4, _, _, none⟩) (v := .bool true) rfl (fun _ _ _ h => h) (by rfl) (by assumption) (fun wS hSw => ?_) ?_
  · (try dsimp only at hSw); go_simp
  simp only [Act.put, List.setIfInBounds_toArray, List.set_cons_zero, List.set_cons_succ]
  refine wpAnyT_take (oi := ⟨some 213, Op.move (Operand.tmp 24), 4, _, _, some (5, true)⟩) (v := .bool true) rfl (fun _ _ _ h => h) (by rfl) (by assumption) (fun wS hSw => ?_) ?_
  · (try dsimp only at hSw); go_simp
  simp only [Act.put, List.setIfInBounds_toArray, List.set_cons_zero, List.set_cons_succ]
  refine wpAnyT_take (oi := ⟨some 214, Op.pick (Operand.tmp 212) (Operand.tmp 213) (Operand.const (Value.bool false)), 4, _, _, none⟩) (v := .bool true) rfl (fun _ _ _ h => h) (by rfl) (by assumption) (fun wS hSw => ?_) ?_
  · (try dsimp only at hSw); go_simp
  simp only [Act.put, List.setIfInBounds_toArray, List.set_cons_zero, List.set_cons_succ]
  refine wpAnyT_take (oi := ⟨some 215, Op.move (Operand.tmp 214), 4, _, _, none⟩) (v := .bool true) rfl (fun _ _ _ h => h) (by rfl) (by assumption) (fun wS hSw => ?_) ?_
  · (try dsimp only at hSw); go_simp
  simp only [Act.put, List.setIfInBounds_toArray, List.set_cons_zero, List.set_cons_succ]
  refine wpAnyT_take (oi := ⟨some 216, Op.move (Operand.tmp 25), 4, _, _, some (8, true)⟩) (v := .bool true) rfl (fun _ _ _ h => h) (by rfl) (by assumption) (fun wS hSw => ?_) ?_
  · (try dsimp only at hSw); go_simp
  simp only [Act.put, List.setIfInBounds_toArray, List.set_cons_zero, List.set_cons_succ]
  refine wpAnyT_take (oi := ⟨some 217, Op.pick (Operand.tmp 215) (Operand.tmp 216) (Operand.const (Value.bool false)), 4, _, _, none⟩) (v := .bool true) rfl (fun _ _ _ h => h) (by rfl) (by assumption) (fun wS hSw => ?_) ?_
  · (try dsimp only at hSw); go_simp
  simp only [Act.put, List.setIfInBounds_toArray, List.set_cons_zero, List.set_cons_succ]
  refine wpAnyT_take (oi := ⟨some 218, Op.move (Operand.tmp 217), 4, _, _, none⟩) (v := .bool true) rfl (fun _ _ _ h => h) (by rfl) (by assumption) (fun wS hSw => ?_) ?_
  · (try dsimp only at hSw); go_simp
  simp only [Act.put, List.setIfInBounds_toArray, List.set_cons_zero, List.set_cons_succ]
  refine wpAnyT_take (oi := ⟨some 219, Op.load 34 (Operand.tmp 8), 34, _, _, some (11, true)⟩) (v := .agg #[.int .i64 A0, .int .i64 A1, .int .i64 A2]) rfl (fun _ _ _ h => h) (by rfl) (by assumption) (fun wS hSw => ?_) ?_
  · (try dsimp only at hSw); go_simp
  simp only [Act.put, List.setIfInBounds_toArray, List.set_cons_zero, List.set_cons_succ]
  refine wpAnyT_take (oi := ⟨some 220, Op.load 34 (Operand.tmp 9), 34, _, _, some (11, true)⟩) (v := .agg #[.int .i64 B0, .int .i64 B1, .int .i64 B2]) rfl (fun _ _ _ h => h) (by rfl) (by assumption) (fun wS hSw => ?_) ?_
  · (try dsimp only at hSw); go_simp
  simp only [Act.put, List.setIfInBounds_toArray, List.set_cons_zero, List.set_cons_succ]
  refine wpAnyT_take (oi := ⟨some 221, Op.load 34 (Operand.tmp 12), 34, _, _, some (11, true)⟩) (v := .agg #[.int .i64 s0, .int .i64 s1, .int .i64 s2]) rfl (fun _ _ _ h => h) (by rfl) (by assumption) (fun wS hSw => ?_) ?_
  · (try dsimp only at hSw); go_simp
  simp only [Act.put, List.setIfInBounds_toArray, List.set_cons_zero, List.set_cons_succ]
  refine wpAnyT_end ?_
  refine wpAnyH_listed #[true, true, true, true, true, true, true, true, true, true, true, true, true, true, true, false, false, false, false, false, false, false, false, false, false, false, false, false, false, false, false, false, false, false, false, false, false, false, false, false, false, false] (by kernel_rfl) ?_
  refine wpAnyH_ready (rs := [15]) (by kernel_rfl) (by simp) ?_
  refine AllReadyH.cons (o := ⟨some 222, Op.call { callee := Callee.value (Operand.func 40), args := #[Operand.tmp 219, Operand.tmp 220, Operand.tmp 221], argTypes := #[34, 34, 34] }, 3, _, _, some (11, true)⟩) rfl (fun K hK => ?_) AllReadyH.nil
  go_simp
  go_at_call 40
  refine (Has.call Q0 (spotSide_is A0 A1 A2 B0 B1 B2 s0 s1 s2 0 H_g2.out _)).mono ?_
  rintro e Wa1 ⟨rfl, Q1⟩
  go_wp2_with fail
  clear hHeld
  refine hK.out _ _ (ms5.out _ Q1) (fun hHeld => ?_)
  clear hK K
  try simp only [List.setIfInBounds_toArray, List.set_cons_zero, List.set_cons_succ]
  refine wpAnyH_listed #[true, true, true, true, true, true, true, true, true, true, true, true, true, true, true, true, false, false, false, false, false, false, false, false, false, false, false, false, false, false, false, false, false, false, false, false, false, false, false, false, false, false] (by kernel_rfl) ?_
  refine wpAnyT_begin [16, 17, 18, 19, 20, 21, 23, 24, 25] (by kernel_rfl) (by kernel_rfl) ?_
  refine wpAnyT_take (oi := ⟨some 223, Op.binOp BinOp.eql 3 (Operand.tmp 222) (Operand.const (Value.int IntKind.i64 0)) 3, 4, _, _, some (11, true)⟩) (v := .bool true) rfl (fun _ _ _ h => h) (by rfl) (by assumption) (fun wS hSw => ?_) ?_
  · (try dsimp only at hSw); go_simp
  simp only [Act.put, List.setIfInBounds_toArray, List.set_cons_zero, List.set_cons_succ]
  refine wpAnyT_take (oi := ⟨some 224, Op.pick (Operand.tmp 218) (Operand.tmp 223) (Operand.const (Value.bool false)), 4, _, _, none⟩) (v := .bool true) rfl (fun _ _ _ h => h) (by rfl) (by assumption) (fun wS hSw => ?_) ?_
  · (try dsimp only at hSw); go_simp
  simp only [Act.put, List.setIfInBounds_toArray, List.set_cons_zero, List.set_cons_succ]
  refine wpAnyT_take (oi := ⟨some 225, Op.move (Operand.tmp 224), 4, _, _, none⟩) (v := .bool true) rfl (fun _ _ _ h => h) (by rfl) (by assumption) (fun wS hSw => ?_) ?_
  · (try dsimp only at hSw); go_simp
  simp only [Act.put, List.setIfInBounds_toArray, List.set_cons_zero, List.set_cons_succ]
  refine wpAnyT_take (oi := ⟨some 226, Op.load 34 (Operand.tmp 20), 34, _, _, some (18, true)⟩) (v := .agg #[.int .i64 W0, .int .i64 W1, .int .i64 W2]) rfl (fun _ _ _ h => h) (by rfl) (by assumption) (fun wS hSw => ?_) ?_
  · (try dsimp only at hSw); go_simp
  simp only [Act.put, List.setIfInBounds_toArray, List.set_cons_zero, List.set_cons_succ]
  refine wpAnyT_take (oi := ⟨some 227, Op.load 34 (Operand.tmp 9), 34, _, _, some (18, true)⟩) (v := .agg #[.int .i64 B0, .int .i64 B1, .int .i64 B2]) rfl (fun _ _ _ h => h) (by rfl) (by assumption) (fun wS hSw => ?_) ?_
  · (try dsimp only at hSw); go_simp
  simp only [Act.put, List.setIfInBounds_toArray, List.set_cons_zero, List.set_cons_succ]
  refine wpAnyT_take (oi := ⟨some 228, Op.load 34 (Operand.tmp 21), 34, _, _, some (18, true)⟩) (v := .agg #[.int .i64 px, .int .i64 py, .int .i64 1]) rfl (fun _ _ _ h => h) (by rfl) (by assumption) (fun wS hSw => ?_) ?_
  · (try dsimp only at hSw); go_simp
  simp only [Act.put, List.setIfInBounds_toArray, List.set_cons_zero, List.set_cons_succ]
  refine wpAnyT_take (oi := ⟨some 230, Op.load 34 (Operand.tmp 8), 34, _, _, some (18, true)⟩) (v := .agg #[.int .i64 A0, .int .i64 A1, .int .i64 A2]) rfl (fun _ _ _ h => h) (by rfl) (by assumption) (fun wS hSw => ?_) ?_
  · (try dsimp only at hSw); go_simp
  simp only [Act.put, List.setIfInBounds_toArray, List.set_cons_zero, List.set_cons_succ]
  refine wpAnyT_take (oi := ⟨some 231, Op.load 34 (Operand.tmp 9), 34, _, _, some (18, true)⟩) (v := .agg #[.int .i64 B0, .int .i64 B1, .int .i64 B2]) rfl (fun _ _ _ h => h) (by rfl) (by assumption) (fun wS hSw => ?_) ?_
  · (try dsimp only at hSw); go_simp
  simp only [Act.put, List.setIfInBounds_toArray, List.set_cons_zero, List.set_cons_succ]
  refine wpAnyT_take (oi := ⟨some 232, Op.load 34 (Operand.tmp 21), 34, _, _, some (18, true)⟩) (v := .agg #[.int .i64 px, .int .i64 py, .int .i64 1]) rfl (fun _ _ _ h => h) (by rfl) (by assumption) (fun wS hSw => ?_) ?_
  · (try dsimp only at hSw); go_simp
  simp only [Act.put, List.setIfInBounds_toArray, List.set_cons_zero, List.set_cons_succ]
  refine wpAnyT_end ?_
  refine wpAnyH_listed #[true, true, true, true, true, true, true, true, true, true, true, true, true, true, true, true, true, true, true, true, true, true, false, true, true, true, false, false, false, false, false, false, false, false, false, false, false, false, false, false, false, false] (by kernel_rfl) ?_
  refine wpAnyH_ready (rs := [22]) (by kernel_rfl) (by simp) ?_
  refine AllReadyH.cons (o := ⟨some 229, Op.call { callee := Callee.value (Operand.func 40), args := #[Operand.tmp 226, Operand.tmp 227, Operand.tmp 228], argTypes := #[34, 34, 34] }, 3, _, _, some (18, true)⟩) rfl (fun K hK => ?_) AllReadyH.nil
  go_simp
  go_at_call 40
  refine (Has.call Q1 (spotSide_is W0 W1 W2 B0 B1 B2 px py 1 sq H_g3.out _)).mono ?_
  rintro e Wa2 ⟨rfl, Q2⟩
  go_wp2_with fail
  clear hHeld
  refine hK.out _ _ (ms5.out _ Q2) (fun hHeld => ?_)
  clear hK K
  try simp only [List.setIfInBounds_toArray, List.set_cons_zero, List.set_cons_succ]
  refine wpAnyH_listed #[true, true, true, true, true, true, true, true, true, true, true, true, true, true, true, true, true, true, true, true, true, true, true, true, true, true, false, false, false, false, false, false, false, false, false, false, false, false, false, false, false, false] (by kernel_rfl) ?_
  refine wpAnyH_ready (rs := [26]) (by kernel_rfl) (by simp) ?_
  refine AllReadyH.cons (o := ⟨some 233, Op.call { callee := Callee.value (Operand.func 40), args := #[Operand.tmp 230, Operand.tmp 231, Operand.tmp 232], argTypes := #[34, 34, 34] }, 3, _, _, some (18, true)⟩) rfl (fun K hK => ?_) AllReadyH.nil
  go_simp
  go_at_call 40
  refine (Has.call Q2 (spotSide_is A0 A1 A2 B0 B1 B2 px py 1 sq H_hsq.out _)).mono ?_
  rintro e Wa3 ⟨rfl, Q3⟩
  go_wp2_with fail
  clear hHeld
  refine hK.out _ _ (ms5.out _ Q3) (fun hHeld => ?_)
  clear hK K
  try simp only [List.setIfInBounds_toArray, List.set_cons_zero, List.set_cons_succ]
  refine wpAnyH_listed #[true, true, true, true, true, true, true, true, true, true, true, true, true, true, true, true, true, true, true, true, true, true, true, true, true, true, true, false, false, false, false, false, false, false, false, false, false, false, false, false, false, false] (by kernel_rfl) ?_
  refine wpAnyT_begin [27, 28, 29, 30, 31, 32, 34, 35, 36] (by kernel_rfl) (by kernel_rfl) ?_
  refine wpAnyT_take (oi := ⟨some 234, Op.binOp BinOp.eql 3 (Operand.tmp 229) (Operand.tmp 233) 3, 4, _, _, some (18, true)⟩) (v := .bool true) rfl (fun _ _ _ h => h) (by rfl) (by assumption) (fun wS hSw => ?_) ?_
  · (try dsimp only at hSw); go_simp
  simp only [Act.put, List.setIfInBounds_toArray, List.set_cons_zero, List.set_cons_succ]
  refine wpAnyT_take (oi := ⟨some 235, Op.pick (Operand.tmp 225) (Operand.tmp 234) (Operand.const (Value.bool false)), 4, _, _, none⟩) (v := .bool true) rfl (fun _ _ _ h => h) (by rfl) (by assumption) (fun wS hSw => ?_) ?_
  · (try dsimp only at hSw); go_simp
  simp only [Act.put, List.setIfInBounds_toArray, List.set_cons_zero, List.set_cons_succ]
  refine wpAnyT_take (oi := ⟨some 236, Op.move (Operand.tmp 235), 4, _, _, none⟩) (v := .bool true) rfl (fun _ _ _ h => h) (by rfl) (by assumption) (fun wS hSw => ?_) ?_
  · (try dsimp only at hSw); go_simp
  simp only [Act.put, List.setIfInBounds_toArray, List.set_cons_zero, List.set_cons_succ]
  refine wpAnyT_take (oi := ⟨some 237, Op.load 34 (Operand.tmp 9), 34, _, _, some (29, true)⟩) (v := .agg #[.int .i64 B0, .int .i64 B1, .int .i64 B2]) rfl (fun _ _ _ h => h) (by rfl) (by assumption) (fun wS hSw => ?_) ?_
  · (try dsimp only at hSw); go_simp
  simp only [Act.put, List.setIfInBounds_toArray, List.set_cons_zero, List.set_cons_succ]
  refine wpAnyT_take (oi := ⟨some 238, Op.load 34 (Operand.tmp 8), 34, _, _, some (29, true)⟩) (v := .agg #[.int .i64 A0, .int .i64 A1, .int .i64 A2]) rfl (fun _ _ _ h => h) (by rfl) (by assumption) (fun wS hSw => ?_) ?_
  · (try dsimp only at hSw); go_simp
  simp only [Act.put, List.setIfInBounds_toArray, List.set_cons_zero, List.set_cons_succ]
  refine wpAnyT_take (oi := ⟨some 239, Op.load 34 (Operand.tmp 21), 34, _, _, some (29, true)⟩) (v := .agg #[.int .i64 px, .int .i64 py, .int .i64 1]) rfl (fun _ _ _ h => h) (by rfl) (by assumption) (fun wS hSw => ?_) ?_
  · (try dsimp only at hSw); go_simp
  simp only [Act.put, List.setIfInBounds_toArray, List.set_cons_zero, List.set_cons_succ]
  refine wpAnyT_take (oi := ⟨some 241, Op.load 34 (Operand.tmp 8), 34, _, _, some (29, true)⟩) (v := .agg #[.int .i64 A0, .int .i64 A1, .int .i64 A2]) rfl (fun _ _ _ h => h) (by rfl) (by assumption) (fun wS hSw => ?_) ?_
  · (try dsimp only at hSw); go_simp
  simp only [Act.put, List.setIfInBounds_toArray, List.set_cons_zero, List.set_cons_succ]
  refine wpAnyT_take (oi := ⟨some 242, Op.load 34 (Operand.tmp 9), 34, _, _, some (29, true)⟩) (v := .agg #[.int .i64 B0, .int .i64 B1, .int .i64 B2]) rfl (fun _ _ _ h => h) (by rfl) (by assumption) (fun wS hSw => ?_) ?_
  · (try dsimp only at hSw); go_simp
  simp only [Act.put, List.setIfInBounds_toArray, List.set_cons_zero, List.set_cons_succ]
  refine wpAnyT_take (oi := ⟨some 243, Op.load 34 (Operand.tmp 21), 34, _, _, some (29, true)⟩) (v := .agg #[.int .i64 px, .int .i64 py, .int .i64 1]) rfl (fun _ _ _ h => h) (by rfl) (by assumption) (fun wS hSw => ?_) ?_
  · (try dsimp only at hSw); go_simp
  simp only [Act.put, List.setIfInBounds_toArray, List.set_cons_zero, List.set_cons_succ]
  refine wpAnyT_end ?_
  refine wpAnyH_listed #[true, true, true, true, true, true, true, true, true, true, true, true, true, true, true, true, true, true, true, true, true, true, true, true, true, true, true, true, true, true, true, true, true, false, true, true, true, false, false, false, false, false] (by kernel_rfl) ?_
  refine wpAnyH_ready (rs := [33]) (by kernel_rfl) (by simp) ?_
  refine AllReadyH.cons (o := ⟨some 240, Op.call { callee := Callee.value (Operand.func 40), args := #[Operand.tmp 237, Operand.tmp 238, Operand.tmp 239], argTypes := #[34, 34, 34] }, 3, _, _, some (29, true)⟩) rfl (fun K hK => ?_) AllReadyH.nil
  go_simp
  go_at_call 40
  refine (Has.call Q3 (spotSide_is B0 B1 B2 A0 A1 A2 px py 1 sn H_g4.out _)).mono ?_
  rintro e Wa4 ⟨rfl, Q4⟩
  go_wp2_with fail
  clear hHeld
  refine hK.out _ _ (ms5.out _ Q4) (fun hHeld => ?_)
  clear hK K
  try simp only [List.setIfInBounds_toArray, List.set_cons_zero, List.set_cons_succ]
  refine wpAnyH_listed #[true, true, true, true, true, true, true, true, true, true, true, true, true, true, true, true, true, true, true, true, true, true, true, true, true, true, true, true, true, true, true, true, true, true, true, true, true, false, false, false, false, false] (by kernel_rfl) ?_
  refine wpAnyH_ready (rs := [37]) (by kernel_rfl) (by simp) ?_
  refine AllReadyH.cons (o := ⟨some 244, Op.call { callee := Callee.value (Operand.func 40), args := #[Operand.tmp 241, Operand.tmp 242, Operand.tmp 243], argTypes := #[34, 34, 34] }, 3, _, _, some (29, true)⟩) rfl (fun K hK => ?_) AllReadyH.nil
  go_simp
  go_at_call 40
  refine (Has.call Q4 (spotSide_is A0 A1 A2 B0 B1 B2 px py 1 sq H_hsq.out _)).mono ?_
  rintro e Wa5 ⟨rfl, Q5⟩
  go_wp2_with fail
  clear hHeld
  refine hK.out _ _ (ms5.out _ Q5) (fun hHeld => ?_)
  clear hK K
  try simp only [List.setIfInBounds_toArray, List.set_cons_zero, List.set_cons_succ]
  refine wpAnyH_listed #[true, true, true, true, true, true, true, true, true, true, true, true, true, true, true, true, true, true, true, true, true, true, true, true, true, true, true, true, true, true, true, true, true, true, true, true, true, true, false, false, false, false] (by kernel_rfl) ?_
  refine wpAnyT_begin [38, 39, 40, 41] (by kernel_rfl) (by kernel_rfl) ?_
  refine wpAnyT_take (oi := ⟨some 245, Op.unOp UnOp.neg 3 (Operand.tmp 244), 3, _, _, some (29, true)⟩) (v := .int .i64 sn) rfl (fun _ _ _ h => h) (by rfl) (by assumption) (fun wS hSw => ?_) ?_
  · (try dsimp only at hSw); go_simp
  simp only [Act.put, List.setIfInBounds_toArray, List.set_cons_zero, List.set_cons_succ]
  refine wpAnyT_take (oi := ⟨some 246, Op.binOp BinOp.eql 3 (Operand.tmp 240) (Operand.tmp 245) 3, 4, _, _, some (29, true)⟩) (v := .bool true) rfl (fun _ _ _ h => h) (by rfl) (by assumption) (fun wS hSw => ?_) ?_
  · (try dsimp only at hSw); go_simp
  simp only [Act.put, List.setIfInBounds_toArray, List.set_cons_zero, List.set_cons_succ]
  refine wpAnyT_take (oi := ⟨some 247, Op.pick (Operand.tmp 236) (Operand.tmp 246) (Operand.const (Value.bool false)), 4, _, _, none⟩) (v := .bool true) rfl (fun _ _ _ h => h) (by rfl) (by assumption) (fun wS hSw => ?_) ?_
  · (try dsimp only at hSw); go_simp
  simp only [Act.put, List.setIfInBounds_toArray, List.set_cons_zero, List.set_cons_succ]
  refine wpAnyT_take (oi := ⟨some 6, Op.assign (Operand.tmp 247), 4, _, _, none⟩) (v := .bool true) rfl (fun _ _ _ h => h) (by rfl) (by assumption) (fun wS hSw => ?_) ?_
  · (try dsimp only at hSw); go_simp
  simp only [Act.put, List.setIfInBounds_toArray, List.set_cons_zero, List.set_cons_succ]
  refine wpAnyT_end ?_
  refine wpAnyH_listed #[true, true, true, true, true, true, true, true, true, true, true, true, true, true, true, true, true, true, true, true, true, true, true, true, true, true, true, true, true, true, true, true, true, true, true, true, true, true, true, true, true, true] (by kernel_rfl) ?_
  refine wpAnyH_done (by kernel_rfl) ?_ _
  go_wp2_with fail
  go_ret
  exact ⟨rfl, Q5.low⟩

end Go.Proofs.Ytoehojopoajcaaa
