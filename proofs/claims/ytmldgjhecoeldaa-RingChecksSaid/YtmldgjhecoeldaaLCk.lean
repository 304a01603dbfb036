/- The law of RingChecks. -/
import Derived.Test.YtmldgjhecoeldaaLBs
import Derived.Test.YtmldgjhecoeldaaLIn
namespace Go.Proofs.Ytmldgjhecoeldaa
open Go.RowKit Go.Lib

set_option linter.unusedSimpArgs false in
set_option linter.unusedVariables false in
set_option maxRecDepth 100000 in
set_option maxHeartbeats 16000000 in
theorem checks_any (v u : Value) (xs : List Int) (n p0 p1 : Int) (raw : List (Int × Int)) (wz : World) (R : RowN wz v xs) (hu : RowP wz u raw) (lo : 0 ≤ n) (hi : n ≤ 255) (b0 : (-9223372036854775808 ≤ p0 ∧ p0 ≤ 9223372036854775807)) (b1 : (-9223372036854775808 ≤ p1 ∧ p1 ≤ 9223372036854775807)) (_hb : ∀ p ∈ raw, (-9223372036854775808 ≤ p.1 ∧ p.1 ≤ 9223372036854775807) ∧ (-9223372036854775808 ≤ p.2 ∧ p.2 ≤ 9223372036854775807)) :
    Calls Try.prog 3 #[v, .int .u8 n, .agg #[.int .i64 p0, .int .i64 p1], u] wz fun e w' => e = .returned (.bool true) ∧ Below wz.heap.size wz w' := by
  have HRN := Lib.hid R
  have HU := Lib.hid hu
  clear R hu
  have D0 := has1 (w := wz) [.int .i64 p0, .int .i64 p1] 24
  change Has wz _ (wz.alloc (.cells #[.int .i64 p0, .int .i64 p1] 24)) at D0
  go_enter Try.func3, Try.ntmps3
  go_wp2_with fail
  generalize wz.alloc (.cells #[.int .i64 p0, .int .i64 p1] 24) = w0 at *
  generalize hMz : wz.heap.size = M at *
  refine (Has.call D0 (sane_any w0)).mono ?_
  rintro e w1 ⟨rfl, D1⟩
  go_wp2_with fail
  refine (made_ring v xs w1 (HRN.out.later D1.low)).mono ?_
  rintro e w2 ⟨s0, r, rfl, hO, hM, g2⟩
  have D2 := D1.later g2
  have R0 := hO.row
  obtain ⟨l3, l10, ok⟩ := hM.facts
  have HOK := Lib.hid ok
  clear hM ok hO D0 D1 g2
  obtain ⟨a0, c0, rfl⟩ := row_form R0
  have gE : Grows w2 (w2.alloc (.cells #[] 24)) := (Below.refl _ w2).alloc (Nat.le_refl _) _
  have hO := Own.empty (w := w2) w2.heap.size rfl
  have RA4 := R0.later gE
  go_wp2_with (at_builtin; refine wpList_append_pts rfl _ _ rfl rfl hO rfl RA4 (by first | omega | (simp; omega)) gE.size ?_)
  intro u5 w5 hO5 hG5
  have G5 := grow_append gE hO (Nat.le_refl _) hG5
  try rw [List.nil_append] at hO5
  clear hO gE RA4 hG5
  obtain ⟨g, c5, rfl, hg1, hg2⟩ := hO5.form (by omega)
  obtain ⟨i, hrem, hiN⟩ := idx_of n r.length lo (by omega)
  obtain ⟨⟨px, py⟩, hpi⟩ : ∃ p, r[i]? = some p := ⟨_, at_pt hiN⟩
  have HS := hO5.set i p0 p1
  have hlen : (r.set i (p0, p1)).length = r.length := List.length_set ..
  obtain ⟨od, hod⟩ : ∃ l, r.set i (p0, p1) = l := ⟨_, rfl⟩
  rw [hod] at hlen HS
  clear HS
  have HL := Lib.hid hlen
  have HOD := Lib.hid hod
  clear hlen hod
  obtain ⟨N, hN⟩ : ∃ N, r.length = N := ⟨_, rfl⟩
  have HN := Lib.hid hN
  rw [hN] at hO5 hrem hiN l3 l10 R0 ⊢
  clear hN
  obtain ⟨k0, k1⟩ := hO5.row.cells hpi
  rw [Nat.zero_add] at k0 k1
  have f0 := hO5.frozen (i * 2)
  have f1 := hO5.frozen (i * 2 + 1)
  have wn : IntKind.i64.wrap n = n := IntWalk.i64_in _ (by omega)
  have bN : ¬ (N : Int) = 0 := by omega
  have bN' : ¬ N = 0 := by omega
  have bi0 : (0 : Int) ≤ i := by omega
  have biN : (i : Int) < N := by omega
  have D5 := D2.later G5
  have m0 : w5.cell? ⟨M, 0, none⟩ = some (.int .i64 p0) := D5.fact (.head _) (i := 0) rfl
  have m1 : w5.cell? ⟨M, 1, none⟩ = some (.int .i64 p1) := D5.fact (.head _) (i := 1) rfl
  clear D5
  go_upto_region 4 with fail
  have hOd := hO5.later ((Below.refl _ w5).drew)
  have Gd := G5.drew
  have kd0 : w5.drew.cell? ⟨g, i * 2, none⟩ = _ := k0
  have kd1 : w5.drew.cell? ⟨g, i * 2 + 1, none⟩ = _ := k1
  have fd0 : w5.drew.frozen? ⟨g, i * 2, none⟩ = false := f0
  have fd1 : w5.drew.frozen? ⟨g, i * 2 + 1, none⟩ = false := f1
  have md : w5.drew.cell? ⟨M, 0, none⟩ = some (.int .i64 p0) ∧ w5.drew.cell? ⟨M, 1, none⟩ = some (.int .i64 p1) := ⟨m0, m1⟩
  clear k0 k1 f0 f1 m0 m1 G5 hO5
  refine wp_region_held_drew (S := (fun w' => w'.cell? ⟨M, 0, none⟩ = some (.int .i64 p0) ∧ w'.cell? ⟨M, 1, none⟩ = some (.int .i64 p1))) (by kernel_rfl) md (fun hHeld => ?_)
  generalize w5.drew = w6 at *
  refine wpAnyT_begin [0, 1, 2, 3, 4] (by kernel_rfl) (by kernel_rfl) ?_
  refine wpAnyT_take (oi := ⟨some 23, Op.move (Operand.tmp 11), 25, _, _, none⟩) (v := .slice (some ⟨g, 0, none⟩) N c5) rfl (fun _ _ _ h => h) (by rfl) (by assumption) (fun wS hSw => ?_) ?_
  · (try dsimp only at hSw); go_simp
  simp only [Act.put, List.setIfInBounds_toArray, List.set_cons_zero, List.set_cons_succ]
  refine wpAnyT_take (oi := ⟨some 24, Op.move (Operand.tmp 1), 5, _, _, none⟩) (v := .int .u8 n) rfl (fun _ _ _ h => h) (by rfl) (by assumption) (fun wS hSw => ?_) ?_
  · (try dsimp only at hSw); go_simp
  simp only [Act.put, List.setIfInBounds_toArray, List.set_cons_zero, List.set_cons_succ]
  refine wpAnyT_take (oi := ⟨some 25, Op.convert 5 3 (Operand.tmp 24), 3, _, _, none⟩) (v := .int .i64 n) rfl (fun _ _ _ h => h) (by rfl) (by assumption) (fun wS hSw => ?_) ?_
  · (try dsimp only at hSw); go_simp
  simp only [Act.put, List.setIfInBounds_toArray, List.set_cons_zero, List.set_cons_succ]
  refine wpAnyT_take (oi := ⟨some 26, Op.move (Operand.tmp 11), 25, _, _, none⟩) (v := .slice (some ⟨g, 0, none⟩) N c5) rfl (fun _ _ _ h => h) (by rfl) (by assumption) (fun wS hSw => ?_) ?_
  · (try dsimp only at hSw); go_simp
  simp only [Act.put, List.setIfInBounds_toArray, List.set_cons_zero, List.set_cons_succ]
  refine wpAnyT_take (oi := ⟨some 27, Op.call { callee := Callee.builtin Builtin.len, args := #[Operand.tmp 26], argTypes := #[25] }, 3, _, _, none⟩) (v := .int .i64 N) rfl (fun _ _ _ h => h) (by rfl) (by assumption) (fun wS hSw => ?_) ?_
  · (try dsimp only at hSw); go_simp
  simp only [Act.put, List.setIfInBounds_toArray, List.set_cons_zero, List.set_cons_succ]
  refine wpAnyT_end ?_
  refine wpAnyH_listed #[true, true, true, true, true, false, false, false, false] (by kernel_rfl) ?_
  refine wpAnyT_begin [5, 6] (by kernel_rfl) (by kernel_rfl) ?_
  refine wpAnyT_take (oi := ⟨some 28, Op.binOp BinOp.rem 3 (Operand.tmp 25) (Operand.tmp 27) 3, 3, _, _, none⟩) (v := .int .i64 i) rfl (fun _ _ _ h => h) (by rfl) (by assumption) (fun wS hSw => ?_) ?_
  · (try dsimp only at hSw); go_simp
  simp only [Act.put, List.setIfInBounds_toArray, List.set_cons_zero, List.set_cons_succ]
  refine wpAnyT_take (oi := ⟨some 29, Op.load 24 (Operand.tmp 6), 24, _, _, none⟩) (v := .agg #[.int .i64 p0, .int .i64 p1]) rfl (fun _ _ _ h => h) (by rfl) (by assumption) (fun wS hSw => ?_) ?_
  · (try dsimp only at hSw); go_simp
  simp only [Act.put, List.setIfInBounds_toArray, List.set_cons_zero, List.set_cons_succ]
  refine wpAnyT_end ?_
  refine wpAnyH_listed #[true, true, true, true, true, true, true, false, false] (by kernel_rfl) ?_
  refine wpAnyT_begin [7] (by kernel_rfl) (by kernel_rfl) ?_
  refine wpAnyT_take (oi := ⟨some 30, Op.indexAddr 25 (Operand.tmp 23) (Operand.tmp 28), 0, _, _, none⟩) (v := .pointer (some ⟨g, i * 2, none⟩)) rfl (fun _ _ _ h => h) (by rfl) (by assumption) (fun wS hSw => ?_) ?_
  · (try dsimp only at hSw); go_simp
  simp only [Act.put, List.setIfInBounds_toArray, List.set_cons_zero, List.set_cons_succ]
  refine wpAnyT_end ?_
  refine wpAnyH_listed #[true, true, true, true, true, true, true, true, false] (by kernel_rfl) ?_
  refine wpAnyH_ready (rs := [8]) (by kernel_rfl) (by simp) ?_
  refine AllReadyH.cons (o := ⟨none, Op.store 24 (Operand.tmp 30) (Operand.tmp 29), 0, _, _, none⟩) rfl (fun K hK => ?_) AllReadyH.nil
  go_simp
  have O7 : Own w2.heap.size ((w6.setCell ⟨g, i * 2, none⟩ (.int .i64 p0)).setCell ⟨g, i * 2 + 1, none⟩ (.int .i64 p1)) _ _ := hOd.set i p0 p1
  have G7 : Grows w2 ((w6.setCell ⟨g, i * 2, none⟩ (.int .i64 p0)).setCell ⟨g, i * 2 + 1, none⟩ (.int .i64 p1)) := (Gd.setCell (p := ⟨g, i * 2, none⟩) hg1 _).setCell (p := ⟨g, i * 2 + 1, none⟩) hg1 _
  generalize (w6.setCell ⟨g, i * 2, none⟩ (.int .i64 p0)).setCell ⟨g, i * 2 + 1, none⟩ (.int .i64 p1) = w7 at *
  have D7 := D2.later G7
  have m7 : w7.cell? ⟨M, 0, none⟩ = some (.int .i64 p0) ∧ w7.cell? ⟨M, 1, none⟩ = some (.int .i64 p1) := ⟨D7.fact (.head _) (i := 0) rfl, D7.fact (.head _) (i := 1) rfl⟩
  clear hHeld
  refine hK.out _ _ (m7) (fun hHeld => ?_)
  clear hK K
  try simp only [List.setIfInBounds_toArray, List.set_cons_zero, List.set_cons_succ]
  refine wpAnyH_listed #[true, true, true, true, true, true, true, true, true] (by kernel_rfl) ?_
  refine wpAnyH_done (by kernel_rfl) ?_ _
  clear hHeld
  clear m7 hOd Gd kd0 kd1 fd0 fd1 md hrem wn hpi
  rw [HOD.out] at O7
  replace R0 := R0.later G7
  clear G7 D2 HOD
  go_wp2_with fail
  refine (cut_any u raw w7 (HU.out.later D7.low)).mono ?_
  rintro e w8 ⟨t8, rfl, RC, g8⟩
  have hE : (raw.take 12).length ≤ 12 := by rw [List.length_take]; omega
  obtain ⟨E, hEe⟩ : ∃ l, raw.take 12 = l := ⟨_, rfl⟩
  have HE := Lib.hid hEe
  rw [hEe] at RC hE
  clear hEe
  obtain ⟨aE, cE, rfl⟩ := row_form RC
  have D8 := D7.later g8
  have O8 := O7.later g8
  replace R0 := R0.later g8
  clear D7 O7 g8 hg2
  obtain ⟨K, hK⟩ : ∃ K, E.length = K := ⟨_, rfl⟩
  rw [hK] at hE RC ⊢
  have HK := Lib.hid hK
  clear hK
  have hO0 := Own.nil w8.heap.size w8
  have hI0 : Has w8 [] w8 := Has.nil (Below.refl _ _)
  go_wp2_with fail
  go_loopw [12, 34] (fun s i wr => ∃ k : Nat, k ≤ K ∧ i = .int .i64 k ∧ Own w8.heap.size wr s ((cutN 9 E).take k) ∧ Has w8 [] wr) (fun _ i _ => K - (RowKit.intOf i).toNat)
  case atStart => exact ⟨0, Nat.zero_le _, rfl, hO0, hI0⟩
  case round =>
    clear hO0 hI0
    obtain ⟨k, hk, rfl, O, hI⟩ := hrel
    by_cases hlt : k < K
    · obtain ⟨x1, y1, hp⟩ := some_pt (ps := E) (k := k) (by rw [HK.out]; exact hlt)
      obtain ⟨bE, oE, rfl, hc⟩ := RC.spot (by rw [HK.out]; omega)
      obtain ⟨q0, q1⟩ := (RC.later hI.low).cells hp
      have hnext := Lib.hid (show (cutN 9 E).take k ++ [(x1.tmod 9, y1.tmod 9)] = (cutN 9 E).take (k + 1) from map_next (f := fun p => (p.1.tmod 9, p.2.tmod 9)) hp)
      have hlk : ((cutN 9 E).take k).length ≤ 12 := by rw [List.length_take]; omega
      have b2 : (k : Int) < K := by omega
      have b3 : (0 : Int) ≤ k := by omega
      have ks : IntKind.i64.wrap ((k : Int) + 1) = ((k + 1 : Nat) : Int) := by rw [IntWalk.i64_in _ (by omega)]; rfl
      have hP := hI.push [.int .i64 x1, .int .i64 y1] 24
      change Has w8 _ (wr.alloc (.cells #[.int .i64 x1, .int .i64 y1] 24)) at hP
      have OP := O.later ((Below.refl _ wr).alloc (Nat.le_refl _) (.cells #[.int .i64 x1, .int .i64 y1] 24))
      clear hc hp hI O
      go_wp2_with fail
      generalize wr.alloc (.cells #[.int .i64 x1, .int .i64 y1] 24) = w9 at *
      refine (calls_two hP (at_any _ _ _)).mono ?_
      rintro e w10 ⟨rfl, C10, g10⟩
      have O10 := OP.later g10
      clear hP OP g10 q0 q1
      obtain ⟨C11, R11⟩ := one_row C10 rfl [(x1.tmod 9, y1.tmod 9)] (by simp)
      have O11 := O10.later ((Below.refl _ w10).alloc (Nat.le_refl _) (.cells #[.int .i64 (x1.tmod 9), .int .i64 (y1.tmod 9)] 24))
      change RowP (w10.alloc (.cells #[.int .i64 (x1.tmod 9), .int .i64 (y1.tmod 9)] 24)) _ _ at R11
      change Has w8 _ (w10.alloc (.cells #[.int .i64 (x1.tmod 9), .int .i64 (y1.tmod 9)] 24)) at C11
      have hD := C11.low.size
      clear C10 O10
      go_wp2_with (at_builtin; refine wpList_append_pts rfl _ _ rfl rfl O11 rfl R11 (by simp; omega) hD ?_)
      intro s12 w12 O12 G12
      have I12 : Has w8 [] w12 := Has.nil (grow_append C11.low O11 (Nat.le_refl _) G12)
      rw [hnext.out] at O12
      clear C11 R11 O11 hD G12
      go_wp2_with fail
      go_roundw
      case rel => exact ⟨k + 1, by omega, by go_num, O12, I12⟩
      case measure => simp [RowKit.intOf]; omega
    · obtain rfl : k = K := by omega
      clear hlt hk
      rw [List.take_of_length_le (by rw [cutN, List.length_map, HK.out]; exact Nat.le_refl _)] at O
      have hSm : (cutN 9 E).length ≤ 12 := by rw [cutN, List.length_map, HK.out]; exact hE
      obtain ⟨Sm, hSe⟩ : ∃ l, cutN 9 E = l := ⟨_, rfl⟩
      rw [hSe] at O hSm
      clear hSe
      replace R0 := R0.later hI.low
      have R1 := (O8.later hI.low).row
      have R3 := O.row
      have C := D8.later hI.low
      obtain ⟨a3, c3, rfl⟩ := row_form R3
      clear hI O D8 O8 RC HE
      go_wp2_with fail
      refine (cut_any u raw _ (HU.out.later C.low)).mono ?_
      rintro e w13 ⟨t13, rfl, R2, g13⟩
      have hE2 : (raw.take 12).length ≤ 12 := by rw [List.length_take]; omega
      obtain ⟨E2, hEe⟩ : ∃ l, raw.take 12 = l := ⟨_, rfl⟩
      rw [hEe] at R2 hE2
      clear hEe
      obtain ⟨a2, c2, rfl⟩ := row_form R2
      replace C := C.later g13
      replace R0 := R0.later g13
      replace R1 := R1.later g13
      replace R3 := R3.later g13
      clear g13
      have gE : Grows w13 (w13.alloc (.cells #[] 24)) := (Below.refl _ w13).alloc (Nat.le_refl _) _
      have hO := Own.empty (w := w13) w13.heap.size rfl
      have RA4 := R0.later gE
      have hl0 : ([] : List (Int × Int)).length + r.length ≤ 100000 := by rw [HN.out]; simp; omega
      go_wp2_with (at_builtin; refine wpList_append_pts rfl _ _ rfl rfl hO rfl RA4 hl0 gE.size ?_)
      intro u14 w14 O14 G14
      have G14' := grow_append gE hO (Nat.le_refl _) G14
      try rw [List.nil_append] at O14
      have RA5 := R0.later G14'
      have hl14 : r.length + r.length ≤ 100000 := by rw [HN.out]; omega
      clear RA4 G14 hO gE
      go_wp2_with (at_builtin; refine wpList_append_pts rfl _ _ rfl rfl O14 rfl RA5 hl14 G14'.size ?_)
      intro u15 w15 O15 G15
      have G := grow_append G14' O14 (Nat.le_refl _) G15
      have R4 := O15.row
      replace C := C.later G
      replace R0 := R0.later G
      replace R1 := R1.later G
      replace R2 := R2.later G
      replace R3 := R3.later G
      clear G14' O14 G15 O15 RA5 G hl14
      have hDl : (r ++ r).length ≤ 100 := by rw [List.length_append, HN.out]; omega
      obtain ⟨Db, hDe⟩ : ∃ l, r ++ r = l := ⟨_, rfl⟩
      rw [hDe] at R4 hDl
      clear hDe
      obtain ⟨a4, c4, rfl⟩ := row_form R4
      have C7 := C.push [.slice a0 N c0, .slice (some ⟨g, 0, none⟩) N c5, .slice a2 E2.length c2, .slice a3 Sm.length c3, .slice a4 Db.length c4] 25
      have gT := (Below.refl w15.heap.size w15).alloc (Nat.le_refl _) (.cells #[.slice a0 N c0, .slice (some ⟨g, 0, none⟩) N c5, .slice a2 E2.length c2, .slice a3 Sm.length c3, .slice a4 Db.length c4] 25)
      replace R0 := R0.later gT
      replace R1 := R1.later gT
      replace R2 := R2.later gT
      replace R3 := R3.later gT
      replace R4 := R4.later gT
      clear gT C
      go_wp2_with fail
      change Has wz _ (w15.alloc (.cells #[.slice a0 N c0, .slice (some ⟨g, 0, none⟩) N c5, .slice a2 E2.length c2, .slice a3 Sm.length c3, .slice a4 Db.length c4] 25)) at C7
      change RowP (w15.alloc (.cells #[.slice a0 N c0, .slice (some ⟨g, 0, none⟩) N c5, .slice a2 E2.length c2, .slice a3 Sm.length c3, .slice a4 Db.length c4] 25)) _ _ at R0
      change RowP (w15.alloc (.cells #[.slice a0 N c0, .slice (some ⟨g, 0, none⟩) N c5, .slice a2 E2.length c2, .slice a3 Sm.length c3, .slice a4 Db.length c4] 25)) _ _ at R1
      change RowP (w15.alloc (.cells #[.slice a0 N c0, .slice (some ⟨g, 0, none⟩) N c5, .slice a2 E2.length c2, .slice a3 Sm.length c3, .slice a4 Db.length c4] 25)) _ _ at R2
      change RowP (w15.alloc (.cells #[.slice a0 N c0, .slice (some ⟨g, 0, none⟩) N c5, .slice a2 E2.length c2, .slice a3 Sm.length c3, .slice a4 Db.length c4] 25)) _ _ at R3
      change RowP (w15.alloc (.cells #[.slice a0 N c0, .slice (some ⟨g, 0, none⟩) N c5, .slice a2 E2.length c2, .slice a3 Sm.length c3, .slice a4 Db.length c4] 25)) _ _ at R4
      generalize w15.alloc (.cells #[.slice a0 N c0, .slice (some ⟨g, 0, none⟩) N c5, .slice a2 E2.length c2, .slice a3 Sm.length c3, .slice a4 Db.length c4] 25) = w16 at *
      generalize w15.heap.size = T at *
      go_loopw [61] (fun i wr => ∃ k : Nat, k ≤ 5 ∧ i = .int .i64 k ∧ Has wz [(T, [.slice a0 N c0, .slice (some ⟨g, 0, none⟩) N c5, .slice a2 E2.length c2, .slice a3 Sm.length c3, .slice a4 Db.length c4])] wr ∧ RowP wr (.slice a0 N c0) r ∧ RowP wr (.slice (some ⟨g, 0, none⟩) N c5) od ∧ RowP wr (.slice a2 E2.length c2) E2 ∧ RowP wr (.slice a3 Sm.length c3) Sm ∧ RowP wr (.slice a4 Db.length c4) Db) (fun i _ => 5 - (RowKit.intOf i).toNat)
      case atStart => exact ⟨0, by omega, rfl, ⟨fun p hp => C7.c p (by cases hp with | head => exact .head _ | tail _ h => cases h), fun p hp => C7.lt p (by cases hp with | head => exact .head _ | tail _ h => cases h), fun p hp => C7.ge p (by cases hp with | head => exact .head _ | tail _ h => cases h), by simp, C7.low⟩, R0, R1, R2, R3, R4⟩
      case round =>
        clear C7 R0 R1 R2 R3 R4
        obtain ⟨k, hk, rfl, C0, R0, R1, R2, R3, R4⟩ := hrel
        by_cases hlt : k < 5
        · obtain ⟨s, X, hc, RX⟩ : ∃ s X, wr.cell? ⟨T, k, none⟩ = some s ∧ RowP wr s X := by
            rcases (show k = 0 ∨ k = 1 ∨ k = 2 ∨ k = 3 ∨ k = 4 by omega) with rfl | rfl | rfl | rfl | rfl
            · exact ⟨_, r, C0.fact (.head _) (i := 0) rfl, R0⟩
            · exact ⟨_, od, C0.fact (.head _) (i := 1) rfl, R1⟩
            · exact ⟨_, E2, C0.fact (.head _) (i := 2) rfl, R2⟩
            · exact ⟨_, Sm, C0.fact (.head _) (i := 3) rfl, R3⟩
            · exact ⟨_, Db, C0.fact (.head _) (i := 4) rfl, R4⟩
          have b1 : (k : Int) < 5 := by omega
          have b2 : (0 : Int) ≤ k := by omega
          have ks : IntKind.i64.wrap ((k : Int) + 1) = ((k + 1 : Nat) : Int) := by rw [IntWalk.i64_in _ (by omega)]; rfl
          obtain ⟨z, hz⟩ : ∃ z, rchkP X = z := ⟨_, rfl⟩
          have HZ := Lib.hid hz
          obtain ⟨a, ha⟩ : ∃ a, areaP X = a := ⟨_, rfl⟩
          have HA := Lib.hid ha
          clear hz ha
          obtain ⟨aX, cX, rfl⟩ := row_form RX
          go_wp2_with fail
          refine (calls_two C0 (c14 _ _ _ RX _ HZ.out)).mono ?_
          rintro e w21 ⟨rfl, C21, g21⟩
          replace R0 := R0.later g21
          replace R1 := R1.later g21
          replace R2 := R2.later g21
          replace R3 := R3.later g21
          replace R4 := R4.later g21
          replace RX := RX.later g21
          clear C0 g21
          clear hc
          go_wp2_with fail
          refine (calls_two C21 (c15 _ _ _ RX _ HZ.out)).mono ?_
          rintro e w22 ⟨rfl, C22, g22⟩
          replace R0 := R0.later g22
          replace R1 := R1.later g22
          replace R2 := R2.later g22
          replace R3 := R3.later g22
          replace R4 := R4.later g22
          replace RX := RX.later g22
          clear C21 g22
          go_wp2_with fail
          refine (calls_two C22 (area_is _ _ _ RX _ HA.out)).mono ?_
          rintro e w23 ⟨rfl, C23, g23⟩
          replace R0 := R0.later g23
          replace R1 := R1.later g23
          replace R2 := R2.later g23
          replace R3 := R3.later g23
          replace R4 := R4.later g23
          replace RX := RX.later g23
          clear C22 g23
          go_wp2_with fail
          refine (calls_two C23 (c17 _ _ _ RX _ HA.out)).mono ?_
          rintro e w24 ⟨rfl, C24, g24⟩
          replace R0 := R0.later g24
          replace R1 := R1.later g24
          replace R2 := R2.later g24
          replace R3 := R3.later g24
          replace R4 := R4.later g24
          replace RX := RX.later g24
          clear C23 g24
          go_wp2_with fail
          go_roundw
          case rel => exact ⟨k + 1, by omega, by go_num, C24, R0, R1, R2, R3, R4⟩
          case measure => simp [RowKit.intOf]; omega
        · obtain rfl : k = 5 := by omega
          go_wp2_with fail
          refine (calls_two C0 (c14 _ _ _ R0 _ HOK.out)).mono ?_
          rintro e w30 ⟨rfl, C30, g30⟩
          go_wp2_with fail
          go_ret
          exact ⟨rfl, C30.low⟩

end Go.Proofs.Ytmldgjhecoeldaa
