/- The law of Within's numbers. -/
import Derived.Test.YtkejilomempogaaXt
import Derived.Test.YtkejilomempogaaSn
namespace Go.Proofs.Ytkejilomempogaa
open Go.RowKit Go.Lib Geo

def onk (A : List (Int × Int)) (x y : Int) (k : Nat) : Bool := onOf (pt A k).1 (pt A k).2 (pt A (k + 1)).1 (pt A (k + 1)).2 x y
theorem within_cs {A : List (Int × Int)} (h : Cs A) {x y : Int} (hx : -14 ≤ x ∧ x ≤ 14) (hy : -14 ≤ y ∧ y ≤ 14) (n : Int) : withinP A (x, y) n = anyTo (sgw A (x, y) n) (A.length - 1) := by
  unfold withinP
  rw [cs_rt h, show rtP (x, y) = true by unfold rtP; rw [inl_iff]; simp only; omega]; rfl
theorem within_zero {A : List (Int × Int)} (h : Cs A) {x y : Int} (hx : -14 ≤ x ∧ x ≤ 14) (hy : -14 ≤ y ∧ y ≤ 14) : withinP A (x, y) 0 = anyTo (onk A x y) (A.length - 1) := by
  rw [within_cs h hx hy]
  refine anyTo_congr fun k hk => ?_
  have h0 := cs_at h (show k < A.length by omega)
  have h1 := cs_at h (show k + 1 < A.length by omega)
  unfold sgw onk
  rw [segW_on, on_in (in_small (by omega)) (in_small (by omega)) (in_small (by omega))]
theorem within_neg {A : List (Int × Int)} (h : Cs A) {x y : Int} (hx : -14 ≤ x ∧ x ≤ 14) (hy : -14 ≤ y ∧ y ≤ 14) : withinP A (x, y) (-1) = false := by
  rw [within_cs h hx hy]
  cases e : anyTo (sgw A (x, y) (-1)) (A.length - 1)
  · rfl
  · obtain ⟨k, _, h2⟩ := anyTo_iff.1 e
    unfold sgw at h2
    rw [segW_neg] at h2; cases h2
theorem within_far {A : List (Int × Int)} (h : Cs A) (hl : 2 ≤ A.length) {x y : Int} (hx : -14 ≤ x ∧ x ≤ 14) (hy : -14 ≤ y ∧ y ≤ 14) : withinP A (x, y) 7200 = true := by
  rw [within_cs h hx hy]
  refine anyTo_iff.2 ⟨0, by omega, ?_⟩
  exact segW_far (cs_at h (by omega)) (cs_at h (by omega)) ⟨hx, hy⟩
theorem within_mono {A : List (Int × Int)} {p : Int × Int} {n m : Int} (h : n ≤ m) (hs : withinP A p n = true) : withinP A p m = true := by
  unfold withinP at *
  rw [Bool.and_eq_true, Bool.and_eq_true] at *
  refine ⟨hs.1, hs.2.1, ?_⟩
  obtain ⟨k, hk, h2⟩ := anyTo_iff.1 hs.2.2
  exact anyTo_iff.2 ⟨k, hk, segW_mono h h2⟩

attribute [local go_sem] Oper.semAt_some
set_option linter.unusedSimpArgs false in
set_option linter.unusedVariables false in
set_option maxRecDepth 100000 in
set_option maxHeartbeats 16000000 in
theorem nears_any (u : Value) (xs : List Int) (p0 p1 n0 n1 : Int) (w : World) (hu : RowN w u xs) (hp0 : -9223372036854775808 ≤ p0 ∧ p0 ≤ 9223372036854775807) (hp1 : -9223372036854775808 ≤ p1 ∧ p1 ≤ 9223372036854775807) (hn0 : 0 ≤ n0 ∧ n0 ≤ 65535) (hn1 : 0 ≤ n1 ∧ n1 ≤ 65535) :
    Calls Try.prog 8 #[u, .agg #[.int .i64 p0, .int .i64 p1], .agg #[.int .u16 n0, .int .u16 n1]] w fun e w' => e = .returned (.bool true) ∧ Below w.heap.size w w' := by
  have C0 := ((Has.nil (Below.refl w.heap.size w)).push [.int .i64 p0, .int .i64 p1] 36).push [.int .u16 n0, .int .u16 n1] 51
  rw [size_alloc] at C0
  have RN := (hu.later ((Below.refl _ w).alloc (Nat.le_refl _) (.cells #[.int .i64 p0, .int .i64 p1] 36))).later ((Below.refl _ _).alloc (Nat.le_refl _) (.cells #[.int .u16 n0, .int .u16 n1] 51))
  clear hu
  go_enter Try.func8, Try.ntmps8
  go_wp2_with fail
  change Has w _ ((w.alloc (.cells #[.int .i64 p0, .int .i64 p1] 36)).alloc (.cells #[.int .u16 n0, .int .u16 n1] 51)) at C0
  change RowN ((w.alloc (.cells #[.int .i64 p0, .int .i64 p1] 36)).alloc (.cells #[.int .u16 n0, .int .u16 n1] 51)) _ _ at RN
  generalize (w.alloc (.cells #[.int .i64 p0, .int .i64 p1] 36)).alloc (.cells #[.int .u16 n0, .int .u16 n1] 51) = w1 at *
  generalize w.heap.size = P at *
  refine (calls_two C0 (sane_any _)).mono ?_
  rintro e w2 ⟨rfl, C1, g1⟩
  replace RN := RN.later g1
  clear C0 g1
  go_wp2_with fail
  refine (made_own _ _ _ RN).mono ?_
  rintro e w3 ⟨uA, A, rfl, hO, nA, cA, g2⟩
  have C2 := C1.later g2
  have hPB : P < w2.heap.size := C1.tail.lt0
  clear C1 RN g2
  have HC := Lib.hid cA
  clear cA
  have k0 := C2.tail.fact (.head _) (i := 0) rfl
  have k1 := C2.tail.fact (.head _) (i := 1) rfl
  go_wp2_with fail
  clear k0 k1
  have bx : -14 ≤ p0.tmod 15 ∧ p0.tmod 15 ≤ 14 := by have h1 := Int.tmod_lt_of_pos p0 (show (0 : Int) < 15 by decide); have h2 := Int.tmod_lt_of_pos (-p0) (show (0 : Int) < 15 by decide); rw [Int.neg_tmod] at h2; omega
  have by' : -14 ≤ p1.tmod 15 ∧ p1.tmod 15 ≤ 14 := by have h1 := Int.tmod_lt_of_pos p1 (show (0 : Int) < 15 by decide); have h2 := Int.tmod_lt_of_pos (-p1) (show (0 : Int) < 15 by decide); rw [Int.neg_tmod] at h2; omega
  generalize p0.tmod 15 = x at *
  generalize p1.tmod 15 = y at *
  refine (calls_two C2 (at_any _ _ _)).mono ?_
  rintro e w4 ⟨rfl, C3, g3⟩
  have hO3 := hO.later g3
  clear hO C2 g3
  have k0 := C3.tail.fact (.head _) (i := 0) rfl
  have k1 := C3.tail.fact (.head _) (i := 1) rfl
  have f0 := C3.tail.free (.head _) (i := 0) rfl
  have f1 := C3.tail.free (.head _) (i := 1) rfl
  have C4 := C3.swap.set2 (.int .i64 x) (.int .i64 y)
  have hO4 := ((Oth.set P 0 w4 (.int .i64 x)).then (Oth.set P 1 _ (.int .i64 y))).own hPB hO3
  have RA := hO4.row
  have RA0 := RA
  obtain ⟨aA, kA, rfl, -, hk2, -⟩ := RA0
  obtain ⟨len, hlen⟩ : ∃ n, A.length = n := ⟨_, rfl⟩
  rw [hlen] at RA nA
  rw [hlen]
  have HLEN := Lib.hid hlen
  clear hlen C3 hO3 hO4
  go_wp2_with fail
  clear k0 k1 f0 f1
  generalize (w4.setCell ⟨P, 0, none⟩ (.int .i64 x)).setCell ⟨P, 1, none⟩ (.int .i64 y) = w5 at *
  go_loopw [9, 10] (fun f i wr => ∃ (k : Nat) (q : Bool), k + 1 ≤ len ∧ i = .int .i64 k ∧ f = .bool q ∧ Hid (anyTo (onk A x y) k = q) ∧ Has w [(P, [.int .i64 x, .int .i64 y]), (P + 1, [.int .u16 n0, .int .u16 n1])] wr ∧ RowP wr (.slice aA len kA) A) (fun _ i _ => len - (RowKit.intOf i).toNat)
  case atStart => exact ⟨0, false, by omega, rfl, rfl, Lib.hid rfl, C4, RA⟩
  case round =>
    clear C4 RA
    obtain ⟨k, q, hk, rfl, rfl, HQ, hI, RA⟩ := hrel
    have s1 : IntKind.i64.wrap ((k : Int) + 1) = (k : Int) + 1 := IntWalk.i64_in _ (by omega)
    by_cases hlt : k + 1 < len
    · have b1 : (k : Int) + 1 < len := by omega
      have b2 : (0 : Int) ≤ (k : Int) + 1 := by omega
      have b3 : (k : Int) < len := by omega
      have b4 : (0 : Int) ≤ k := by omega
      cases q
      · obtain ⟨b, o, rfl, -⟩ := RA.spot (by rw [HLEN.out]; omega)
        obtain ⟨y0, y1, hp⟩ := some_pt (ps := A) (k := k) (by rw [HLEN.out]; omega)
        obtain ⟨z0, z1, hq⟩ := some_pt (ps := A) (k := k + 1) (by rw [HLEN.out]; omega)
        obtain ⟨v, hv⟩ : ∃ v, onOf y0 y1 z0 z1 x y = v := ⟨_, rfl⟩
        have HN := Lib.hid (show anyTo (onk A x y) (k + 1) = v by rw [anyTo, HQ.out, Bool.false_or]; unfold onk; rw [pt_of hp, pt_of hq]; exact hv)
        have HP := Lib.hid hp
        have HP2 := Lib.hid hq
        have HV := Lib.hid hv
        clear hp hq hv
        go_upto_region 8 with fail
        have X0 := hI.drew
        have RA1 := RA.later ((Below.refl _ wr).drew)
        have HS := Lib.hid (show ∀ w', Has w [(P, [.int .i64 x, .int .i64 y]), (P + 1, [.int .u16 n0, .int .u16 n1])] w' → RowP w' (.slice (some ⟨b, o, none⟩) len kA) A → (w'.cell? ⟨b, o + k * 2, none⟩ = some (.int .i64 y0) ∧ w'.cell? ⟨b, o + k * 2 + 1, none⟩ = some (.int .i64 y1) ∧ w'.cell? ⟨b, o + (k + 1) * 2, none⟩ = some (.int .i64 z0) ∧ w'.cell? ⟨b, o + (k + 1) * 2 + 1, none⟩ = some (.int .i64 z1) ∧ w'.cell? ⟨P, 0, none⟩ = some (.int .i64 x) ∧ w'.cell? ⟨P, 1, none⟩ = some (.int .i64 y)) ∧ RowP w' (.slice (some ⟨b, o, none⟩) len kA) A from fun w' h hR => ⟨⟨(hR.cells HP.out).1, (hR.cells HP.out).2, (hR.cells HP2.out).1, (hR.cells HP2.out).2, h.pt.1, h.pt.2⟩, hR⟩)
        refine wp_region_held_drew (S := (fun w' => (w'.cell? ⟨b, o + k * 2, none⟩ = some (.int .i64 y0) ∧ w'.cell? ⟨b, o + k * 2 + 1, none⟩ = some (.int .i64 y1) ∧ w'.cell? ⟨b, o + (k + 1) * 2, none⟩ = some (.int .i64 z0) ∧ w'.cell? ⟨b, o + (k + 1) * 2 + 1, none⟩ = some (.int .i64 z1) ∧ w'.cell? ⟨P, 0, none⟩ = some (.int .i64 x) ∧ w'.cell? ⟨P, 1, none⟩ = some (.int .i64 y)) ∧ RowP w' (.slice (some ⟨b, o, none⟩) len kA) A)) (by kernel_rfl) (HS.out _ X0 RA1) (fun hHeld => ?_)
        refine wpAnyT_begin [0, 1, 2, 3, 4, 5, 6, 7, 8, 9, 10, 11] (by kernel_rfl) (by kernel_rfl) ?_
        refine wpAnyT_take (oi := ⟨some 30, Op.move (Operand.tmp 9), 4, _, _, none⟩) (v := .bool false) rfl (fun _ _ _ h => h) (by rfl) (by assumption) (fun wS hSw => ?_) ?_
        · (try dsimp only at hSw); go_simp
        simp only [Act.put, List.setIfInBounds_toArray, List.set_cons_zero, List.set_cons_succ]
        refine wpAnyT_take (oi := ⟨some 31, Op.move (Operand.tmp 30), 4, _, _, none⟩) (v := .bool false) rfl (fun _ _ _ h => h) (by rfl) (by assumption) (fun wS hSw => ?_) ?_
        · (try dsimp only at hSw); go_simp
        simp only [Act.put, List.setIfInBounds_toArray, List.set_cons_zero, List.set_cons_succ]
        refine wpAnyT_take (oi := ⟨some 32, Op.move (Operand.tmp 8), 23, _, _, some (1, false)⟩) (v := .slice (some ⟨b, o, none⟩) len kA) rfl (fun _ _ _ h => h) (by rfl) (by assumption) (fun wS hSw => ?_) ?_
        · (try dsimp only at hSw); go_simp
        simp only [Act.put, List.setIfInBounds_toArray, List.set_cons_zero, List.set_cons_succ]
        refine wpAnyT_take (oi := ⟨some 33, Op.move (Operand.tmp 10), 3, _, _, some (1, false)⟩) (v := .int .i64 k) rfl (fun _ _ _ h => h) (by rfl) (by assumption) (fun wS hSw => ?_) ?_
        · (try dsimp only at hSw); go_simp
        simp only [Act.put, List.setIfInBounds_toArray, List.set_cons_zero, List.set_cons_succ]
        refine wpAnyT_take (oi := ⟨some 34, Op.indexAddr 23 (Operand.tmp 32) (Operand.tmp 33), 0, _, _, some (1, false)⟩) (v := .pointer (some ⟨b, o + k * 2, none⟩)) rfl (fun _ _ _ h => h) (by rfl) (by assumption) (fun wS hSw => ?_) ?_
        · (try dsimp only at hSw); go_simp
        simp only [Act.put, List.setIfInBounds_toArray, List.set_cons_zero, List.set_cons_succ]
        refine wpAnyT_take (oi := ⟨some 35, Op.load 36 (Operand.tmp 34), 36, _, _, some (1, false)⟩) (v := .agg #[.int .i64 y0, .int .i64 y1]) rfl (fun _ _ _ h => h) (by rfl) (by assumption) (fun wS hSw => ?_) ?_
        · (try dsimp only at hSw); go_simp
        simp only [Act.put, List.setIfInBounds_toArray, List.set_cons_zero, List.set_cons_succ]
        refine wpAnyT_take (oi := ⟨some 36, Op.move (Operand.tmp 8), 23, _, _, some (1, false)⟩) (v := .slice (some ⟨b, o, none⟩) len kA) rfl (fun _ _ _ h => h) (by rfl) (by assumption) (fun wS hSw => ?_) ?_
        · (try dsimp only at hSw); go_simp
        simp only [Act.put, List.setIfInBounds_toArray, List.set_cons_zero, List.set_cons_succ]
        refine wpAnyT_take (oi := ⟨some 37, Op.move (Operand.tmp 10), 3, _, _, some (1, false)⟩) (v := .int .i64 k) rfl (fun _ _ _ h => h) (by rfl) (by assumption) (fun wS hSw => ?_) ?_
        · (try dsimp only at hSw); go_simp
        simp only [Act.put, List.setIfInBounds_toArray, List.set_cons_zero, List.set_cons_succ]
        refine wpAnyT_take (oi := ⟨some 38, Op.binOp BinOp.add 3 (Operand.tmp 37) (Operand.const (Value.int IntKind.i64 1)) 3, 3, _, _, some (1, false)⟩) (v := .int .i64 ((k : Int) + 1)) rfl (fun _ _ _ h => h) (by rfl) (by assumption) (fun wS hSw => ?_) ?_
        · (try dsimp only at hSw); go_simp
        simp only [Act.put, List.setIfInBounds_toArray, List.set_cons_zero, List.set_cons_succ]
        refine wpAnyT_take (oi := ⟨some 39, Op.indexAddr 23 (Operand.tmp 36) (Operand.tmp 38), 0, _, _, some (1, false)⟩) (v := .pointer (some ⟨b, o + (k + 1) * 2, none⟩)) rfl (fun _ _ _ h => h) (by rfl) (by assumption) (fun wS hSw => ?_) ?_
        · (try dsimp only at hSw); go_simp
        simp only [Act.put, List.setIfInBounds_toArray, List.set_cons_zero, List.set_cons_succ]
        refine wpAnyT_take (oi := ⟨some 40, Op.load 36 (Operand.tmp 39), 36, _, _, some (1, false)⟩) (v := .agg #[.int .i64 z0, .int .i64 z1]) rfl (fun _ _ _ h => h) (by rfl) (by assumption) (fun wS hSw => ?_) ?_
        · (try dsimp only at hSw); go_simp
        simp only [Act.put, List.setIfInBounds_toArray, List.set_cons_zero, List.set_cons_succ]
        refine wpAnyT_take (oi := ⟨some 41, Op.load 36 (Operand.tmp 4), 36, _, _, some (1, false)⟩) (v := .agg #[.int .i64 x, .int .i64 y]) rfl (fun _ _ _ h => h) (by rfl) (by assumption) (fun wS hSw => ?_) ?_
        · (try dsimp only at hSw); go_simp
        simp only [Act.put, List.setIfInBounds_toArray, List.set_cons_zero, List.set_cons_succ]
        refine wpAnyT_end ?_
        refine wpAnyH_listed #[true, true, true, true, true, true, true, true, true, true, true, true, false, false, false] (by kernel_rfl) ?_
        refine wpAnyH_ready (rs := [12]) (by kernel_rfl) (by simp) ?_
        refine AllReadyH.cons (o := ⟨some 42, Op.call { callee := Callee.value (Operand.func 33), args := #[Operand.tmp 35, Operand.tmp 40, Operand.tmp 41], argTypes := #[36, 36, 36] }, 4, _, _, some (1, false)⟩) rfl (fun K hK => ?_) AllReadyH.nil
        go_simp
        go_at_call 33
        refine (calls_two X0 (on_is y0 y1 z0 z1 x y v HV.out _)).mono ?_
        rintro e w8 ⟨rfl, X1, g8⟩
        have RA2 := RA1.later g8
        go_wp2_with fail
        clear hHeld
        refine hK.out _ _ (HS.out _ X1 RA2) (fun hHeld => ?_)
        clear hK K
        try simp only [List.setIfInBounds_toArray, List.set_cons_zero, List.set_cons_succ]
        refine wpAnyH_listed #[true, true, true, true, true, true, true, true, true, true, true, true, true, false, false] (by kernel_rfl) ?_
        refine wpAnyT_begin [13, 14] (by kernel_rfl) (by kernel_rfl) ?_
        refine wpAnyT_take (oi := ⟨some 43, Op.pick (Operand.tmp 31) (Operand.const (Value.bool true)) (Operand.tmp 42), 4, _, _, none⟩) (v := .bool v) rfl (fun _ _ _ h => h) (by rfl) (by assumption) (fun wS hSw => ?_) ?_
        · (try dsimp only at hSw); go_simp
        simp only [Act.put, List.setIfInBounds_toArray, List.set_cons_zero, List.set_cons_succ]
        refine wpAnyT_take (oi := ⟨some 9, Op.assign (Operand.tmp 43), 4, _, _, none⟩) (v := .bool v) rfl (fun _ _ _ h => h) (by rfl) (by assumption) (fun wS hSw => ?_) ?_
        · (try dsimp only at hSw); go_simp
        simp only [Act.put, List.setIfInBounds_toArray, List.set_cons_zero, List.set_cons_succ]
        refine wpAnyT_end ?_
        refine wpAnyH_listed #[true, true, true, true, true, true, true, true, true, true, true, true, true, true, true] (by kernel_rfl) ?_
        refine wpAnyH_done (by kernel_rfl) ?_ _
        clear hHeld
        go_wp2_with fail
        go_roundw
        case rel => exact ⟨k + 1, v, by omega, by go_num, rfl, HN, X1, RA2⟩
        case measure => simp [RowKit.intOf]; omega
      · have HN := Lib.hid (show anyTo (onk A x y) (k + 1) = true by rw [anyTo, HQ.out]; rfl)
        have c0 := hI.drew.fact (.head _) (i := 0) rfl
        have c1 := hI.drew.fact (.head _) (i := 1) rfl
        go_upto_region 8 with fail
        go_region
        go_wp2_with fail
        go_roundw
        case rel => exact ⟨k + 1, true, by omega, by go_num, rfl, HN, hI.drew, RA.later ((Below.refl _ wr).drew)⟩
        case measure => simp [RowKit.intOf]; omega
    · obtain rfl : len = k + 1 := by omega
      have b1 : ¬ ((k : Int) + 1 < ((k + 1 : Nat) : Int)) := by omega
      have k2 := hI.tail.fact (.head _) (i := 0) rfl
      have k3 := hI.tail.fact (.head _) (i := 1) rfl
      have k0 := hI.fact (.head _) (i := 0) rfl
      have k1 := hI.fact (.head _) (i := 1) rfl
      have s2 : IntKind.i64.wrap n0 = n0 := IntWalk.i64_in _ (by omega)
      have s3 : IntKind.i64.wrap n1 = n1 := IntWalk.i64_in _ (by omega)
      have m0 : 0 ≤ n0 % 4000 := by omega
      have m1 : n0 % 4000 < 4000 := by omega
      have m2 : 0 ≤ n1 % 4000 := by omega
      have m3 : n1 % 4000 < 4000 := by omega
      have s4 : IntKind.i64.wrap (n0 % 4000 + n1 % 4000) = n0 % 4000 + n1 % 4000 := IntWalk.i64_in _ (by omega)
      have H0 := Lib.hid ((within_zero HC.out bx by').trans (show anyTo (onk A x y) (A.length - 1) = q by rw [HLEN.out]; exact HQ.out))
      have H1 := Lib.hid (within_neg HC.out bx by')
      have H2 := Lib.hid (within_far HC.out (by rw [HLEN.out]; omega) bx by')
      obtain ⟨r, hr⟩ : ∃ r, withinP A (x, y) (n0 % 4000) = r := ⟨_, rfl⟩
      have HM := Lib.hid (show r = true → withinP A (x, y) (n0 % 4000 + n1 % 4000) = true from fun h => within_mono (by omega) (hr.trans h))
      have H3 := Lib.hid hr
      clear hr
      go_wp2_with fail
      clear k0 k1 k2 k3
      generalize n0 % 4000 = N at *
      generalize n1 % 4000 = M at *
      refine (calls_two hI (v23 _ _ x y 0 _ RA (by unfold I64; omega) q H0.out)).mono ?_
      rintro e z1 ⟨rfl, D1, g1⟩
      replace RA := RA.later g1
      clear g1
      have k0 := D1.fact (.head _) (i := 0) rfl
      have k1 := D1.fact (.head _) (i := 1) rfl
      go_wp2_with fail
      try clear k0 k1
      cases r
      · refine (calls_two D1 (v23 _ _ x y N _ RA (by unfold I64; omega) false H3.out)).mono ?_
        rintro e z2 ⟨rfl, D2, g2⟩
        replace RA := RA.later g2
        clear g2
        have k0 := D2.fact (.head _) (i := 0) rfl
        have k1 := D2.fact (.head _) (i := 1) rfl
        go_wp2_with fail
        try clear k0 k1
        refine (calls_two D2 (v23 _ _ x y (-1) _ RA (by unfold I64; omega) false H1.out)).mono ?_
        rintro e z3 ⟨rfl, D3, g3⟩
        replace RA := RA.later g3
        clear g3
        have k0 := D3.fact (.head _) (i := 0) rfl
        have k1 := D3.fact (.head _) (i := 1) rfl
        go_wp2_with fail
        try clear k0 k1
        refine (calls_two D3 (v23 _ _ x y 7200 _ RA (by unfold I64; omega) true H2.out)).mono ?_
        rintro e z4 ⟨rfl, D4, g4⟩
        replace RA := RA.later g4
        clear g4
        have k0 := D4.fact (.head _) (i := 0) rfl
        have k1 := D4.fact (.head _) (i := 1) rfl
        go_wp2_with fail
        try clear k0 k1
        go_ret
        exact ⟨rfl, D4.low⟩
      · refine (calls_two D1 (v23 _ _ x y N _ RA (by unfold I64; omega) true H3.out)).mono ?_
        rintro e z2 ⟨rfl, D2, g2⟩
        replace RA := RA.later g2
        clear g2
        have k0 := D2.fact (.head _) (i := 0) rfl
        have k1 := D2.fact (.head _) (i := 1) rfl
        go_wp2_with fail
        try clear k0 k1
        refine (calls_two D2 (v23 _ _ x y (N + M) _ RA (by unfold I64; omega) true (HM.out (by simp)))).mono ?_
        rintro e z3 ⟨rfl, D3, g3⟩
        replace RA := RA.later g3
        clear g3
        have k0 := D3.fact (.head _) (i := 0) rfl
        have k1 := D3.fact (.head _) (i := 1) rfl
        go_wp2_with fail
        try clear k0 k1
        refine (calls_two D3 (v23 _ _ x y (-1) _ RA (by unfold I64; omega) false H1.out)).mono ?_
        rintro e z4 ⟨rfl, D4, g4⟩
        replace RA := RA.later g4
        clear g4
        have k0 := D4.fact (.head _) (i := 0) rfl
        have k1 := D4.fact (.head _) (i := 1) rfl
        go_wp2_with fail
        try clear k0 k1
        refine (calls_two D4 (v23 _ _ x y 7200 _ RA (by unfold I64; omega) true H2.out)).mono ?_
        rintro e z5 ⟨rfl, D5, g5⟩
        replace RA := RA.later g5
        clear g5
        have k0 := D5.fact (.head _) (i := 0) rfl
        have k1 := D5.fact (.head _) (i := 1) rfl
        go_wp2_with fail
        try clear k0 k1
        go_ret
        exact ⟨rfl, D5.low⟩

end Go.Proofs.Ytkejilomempogaa
