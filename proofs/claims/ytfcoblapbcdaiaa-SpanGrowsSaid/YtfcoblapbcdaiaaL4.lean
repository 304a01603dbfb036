/- The law on greater squares. -/
import Derived.Test.YtfcoblapbcdaiaaM2
namespace Go.Proofs.Ytfcoblapbcdaiaa
open Go.RowKit Go.Lib
attribute [local go_sem] Oper.semAt_some
theorem Asc.at_done {es : List Ev} (h : Asc es) {i : Nat} (hi : i < es.length) (s : Int) : endA (atE es i) ≤ s ↔ i < doneN s es := by
  constructor
  · intro hs
    rcases Nat.lt_or_ge i (doneN s es) with g | g
    · exact g
    · have hn : doneN s es < es.length := by omega
      have hd := done_stops (s := s) (es := es) (List.getElem?_eq_getElem hn)
      rw [← atE_of (List.getElem?_eq_getElem hn), dnA_end, h.ok hn, Bool.true_and, decide_eq_false_iff_not] at hd
      have := h.end_le g hi
      omega
  · intro hlt
    have hd := Dn.of_done (s := s) (es := es) i _ hlt (List.getElem?_eq_getElem hi)
    rw [← atE_of (List.getElem?_eq_getElem hi), dnA_end, Bool.and_eq_true, decide_eq_true_eq] at hd
    exact hd.2
theorem dnA_mono {s t a : Int} (h : s ≤ t) (hd : dnA s a = true) : dnA t a = true := by
  unfold dnA at hd ⊢
  simp only [Bool.and_eq_true, decide_eq_true_eq] at hd ⊢
  exact ⟨hd.1, by omega⟩
theorem done_mono {s t : Int} (h : s ≤ t) : ∀ es : List Ev, doneN s es ≤ doneN t es
  | [] => Nat.le_refl _
  | e :: es => by
    unfold doneN
    by_cases hd : dnA s e.at_ = true
    · rw [if_pos hd, if_pos (dnA_mono h hd)]
      exact Nat.succ_le_succ (done_mono h es)
    · rw [if_neg hd]; omega
theorem done_neg (es : List Ev) : doneN (-1) es = 0 := by
  cases es with
  | nil => rfl
  | cons e es =>
    unfold doneN
    rw [if_neg]
    rw [dnA_end]
    have := endA_bd e.at_
    simp; omega
theorem Asc.done_top {es : List Ev} (h : Asc es) : doneN 1048576 es = es.length := h.done_all (begE_bd es _).2
theorem sc_mono {s t : Int} (h0 : 0 ≤ s) (h : s ≤ t) : scV s ≤ scV t := by
  obtain ⟨a1, a2⟩ := sc_sq h0
  obtain ⟨b1, b2⟩ := sc_sq (show 0 ≤ t by omega)
  have c1 := sc_bd s
  have c2 := sc_bd t
  rcases Int.lt_or_le (scV t) (scV s) with g | g
  · rcases b2 with b2 | b2
    · omega
    · have := sq_le (show 0 ≤ scV t + 1 by omega) (show scV t + 1 ≤ scV s by omega)
      omega
  · exact g
theorem band_mono {s t : Int} (h : s ≤ t) : bandV s ≤ bandV t := by
  unfold bandV
  (repeat' split) <;> omega
set_option linter.unusedSimpArgs false in
set_option maxRecDepth 100000 in
set_option maxHeartbeats 16000000 in
theorem grows_any (v : Value) (xs : List Int) (q p : Nat) (w : World) (hv : Row tI w v xs) (hq : q < 4294967296) (hp : p < 4294967296) :
    Calls Try.prog 4 #[v, .int .u32 (q : Int), .int .u32 (p : Int)] w fun e w' => e = .returned (.bool true) ∧ Below w.heap.size w w' := by
  have HV := Lib.hid hv
  clear hv
  go_enter Try.func4, Try.ntmps4
  go_wp2_with fail
  refine (sane_any _).mono ?_
  rintro e w1 ⟨rfl, g1⟩
  go_wp2_with fail
  refine (made_any v xs _ (HV.out.later g1)).mono ?_
  rintro e w2 ⟨d, ev, es, rfl, R, HA0, g2⟩
  have g := Below.trans g1 (g2.mono g1.size)
  clear g1 g2
  obtain ⟨a, L, c, rfl, hL, hc1, hc2, R⟩ := R.form
  have HR := Lib.hid R
  have HA := Lib.hid HA0
  have HG := Lib.hid g
  have hL8 : L ≤ 8 := by have := HA0.len; omega
  clear R HA0 g
  have C := has1 (w := w2) [.int .i64 d, .slice a L c] 25
  change Has w2 _ (w2.alloc (.cells #[.int .i64 d, .slice a L c] 25)) at C
  obtain ⟨x0, hx0⟩ : ∃ x : Nat, q % 1100000 = x := ⟨_, rfl⟩
  obtain ⟨y0, hy0⟩ : ∃ x : Nat, p % 1100000 = x := ⟨_, rfl⟩
  have hx0' : (q : Int) % 1100000 = (x0 : Int) := by omega
  have hy0' : (p : Int) % 1100000 = (y0 : Int) := by omega
  have bx : x0 < 1100000 := by omega
  have by' : y0 < 1100000 := by omega
  clear hx0 hy0
  go_upto_if 24 with fail
  generalize w2.alloc (.cells #[.int .i64 d, .slice a L c] 25) = w3 at *
  generalize hA2 : w2.heap.size = A at *
  clear hA2
  go_cut [9, 10] (fun u1 u2 wx => ∃ x y : Nat, u1 = .int .i64 x ∧ u2 = .int .i64 y ∧ x ≤ y ∧ y < 1100000 ∧ w3 = wx)
  case first =>
    by_cases hxy : x0 ≤ y0
    · have n1 : ¬ (x0 : Int) > y0 := by omega
      have n2 : ¬ (y0 : Int) < x0 := by omega
      have n3 : ¬ y0 < x0 := by omega
      go_wp2_with fail
      go_meet
      exact ⟨x0, y0, by first | rfl | rw [hx0'], by first | rfl | rw [hy0'], hxy, by', rfl⟩
    · have n1 : (x0 : Int) > y0 := by omega
      have n2 : (y0 : Int) < x0 := by omega
      have n3 : y0 < x0 := by omega
      go_wp2_with fail
      go_meet
      exact ⟨y0, x0, by first | rfl | rw [hy0'], by first | rfl | rw [hx0'], by omega, bx, rfl⟩
  case rest =>
    obtain ⟨x, y, rfl, rfl, hxy, hy, rfl⟩ := hcut
    clear hx0' hy0' bx by'
    obtain ⟨n, hn⟩ : ∃ n, doneN (x : Int) es = n := ⟨_, rfl⟩
    have Hn := Lib.hid hn
    have hnL : n ≤ L := by have := doneN_le (x : Int) es; omega
    clear hn
    go_wp2_with fail
    go_loopw [12, 11] (fun i u wr => ∃ k : Nat, k ≤ L ∧ i = .int .i64 k ∧ u = .int .i64 ((min k n : Nat) : Int) ∧ Has w2 [(A, [.int .i64 d, .slice a L c])] wr) (fun i _ _ => L - (RowKit.intOf i).toNat)
    case atStart => exact ⟨0, Nat.zero_le _, rfl, by simp, C⟩
    case round =>
      clear C
      obtain ⟨k, hk, rfl, rfl, C⟩ := hrel
      have k1 := C.fact (.head _) (i := 1) rfl
      simp only at k1
      by_cases hlt : k < L
      · have g5 : (k : Int) < L := by omega
        have ksum : IntKind.i64.wrap ((k : Int) + 1) = ((k + 1 : Nat) : Int) := by rw [IntWalk.i64_in _ (by omega)]; rfl
        have had := HA.out.at_done (i := k) (by omega) (x : Int)
        rw [HA.out.end_ (by omega), Hn.out] at had
        have heb := endA_bd (atE es k)
        rw [HA.out.end_ (by omega)] at heb
        obtain ⟨at1, hat⟩ : ∃ z, atE es k = z := ⟨_, rfl⟩
        have Hat := Lib.hid hat
        rw [hat] at had heb
        obtain ⟨en, hen⟩ : ∃ z, at1 * at1 = z := ⟨_, rfl⟩
        rw [hen] at had heb
        have x3 : IntKind.i64.wrap en = en := by rw [IntKind.wrap_i64]; omega
        have x4 : wrap64 en = en := IntWalk.wrap64_in _ ⟨by omega, by omega⟩
        clear hat
        obtain ⟨mk, hmk⟩ : ∃ m, min k n = m := ⟨_, rfl⟩
        rw [hmk]
        have msum : IntKind.i64.wrap ((mk : Int) + 1) = ((mk + 1 : Nat) : Int) := by rw [IntWalk.i64_in _ (by omega)]; rfl
        by_cases hle : en ≤ (x : Int)
        · have hkn : k < n := had.1 hle
          have hm2 : min (k + 1) n = mk + 1 := by omega
          clear had hkn hmk
          go_wp2_with fail
          refine wp_region_held_drew (S := fun wz => wz = wr.drew) (by kernel_rfl) rfl (fun hHeld => ?_)
          have C2 := C.drew
          generalize wr.drew = w5 at *
          have k1 := C2.fact (.head _) (i := 1) rfl
          obtain ⟨b, o, ki', id', ot', nn', rfl, hxx, e0, e5, e2, e3, e4⟩ := (HR.out.later C2.low).ev (k := k) (by omega)
          rw [Hat.out] at e5
          simp only at k1
          clear hxx e0 e2 e3 e4
          refine wpAnyT_begin [0, 2, 6, 8, 13] (by kernel_rfl) (by kernel_rfl) ?_
          refine wpAnyT_take (oi := ⟨some 34, Op.fieldAddr 25 (Operand.tmp 8) 1, 0, _, _, none⟩) (v := .pointer (some ⟨A, 1, none⟩)) rfl (fun _ _ _ h => h) (by rfl) (by assumption) (fun wS hSw => ?_) ?_
          · (try dsimp only at hSw); subst hSw; go_simp <;> omega
          simp only [Act.put, List.setIfInBounds_toArray, List.set_cons_zero, List.set_cons_succ]
          refine wpAnyT_take (oi := ⟨some 36, Op.move (Operand.tmp 12), 3, _, _, none⟩) (v := .int .i64 (k : Int)) rfl (fun _ _ _ h => h) (by rfl) (by assumption) (fun wS hSw => ?_) ?_
          · (try dsimp only at hSw); subst hSw; go_simp <;> omega
          simp only [Act.put, List.setIfInBounds_toArray, List.set_cons_zero, List.set_cons_succ]
          refine wpAnyT_take (oi := ⟨some 40, Op.fieldAddr 25 (Operand.tmp 8) 1, 0, _, _, none⟩) (v := .pointer (some ⟨A, 1, none⟩)) rfl (fun _ _ _ h => h) (by rfl) (by assumption) (fun wS hSw => ?_) ?_
          · (try dsimp only at hSw); subst hSw; go_simp <;> omega
          simp only [Act.put, List.setIfInBounds_toArray, List.set_cons_zero, List.set_cons_succ]
          refine wpAnyT_take (oi := ⟨some 42, Op.move (Operand.tmp 12), 3, _, _, none⟩) (v := .int .i64 (k : Int)) rfl (fun _ _ _ h => h) (by rfl) (by assumption) (fun wS hSw => ?_) ?_
          · (try dsimp only at hSw); subst hSw; go_simp <;> omega
          simp only [Act.put, List.setIfInBounds_toArray, List.set_cons_zero, List.set_cons_succ]
          refine wpAnyT_take (oi := ⟨some 47, Op.move (Operand.tmp 9), 3, _, _, none⟩) (v := .int .i64 (x : Int)) rfl (fun _ _ _ h => h) (by rfl) (by assumption) (fun wS hSw => ?_) ?_
          · (try dsimp only at hSw); subst hSw; go_simp <;> omega
          simp only [Act.put, List.setIfInBounds_toArray, List.set_cons_zero, List.set_cons_succ]
          refine wpAnyT_end ?_
          refine wpAnyH_listed #[true, false, true, false, false, false, true, false, true, false, false, false, false, true, false] (by kernel_rfl) ?_
          refine wpAnyT_begin [1, 7] (by kernel_rfl) (by kernel_rfl) ?_
          refine wpAnyT_take (oi := ⟨some 35, Op.load 23 (Operand.tmp 34), 23, _, _, none⟩) (v := .slice (some ⟨b, o, none⟩) L c) rfl (fun _ _ _ h => h) (by rfl) (by assumption) (fun wS hSw => ?_) ?_
          · (try dsimp only at hSw); subst hSw; go_simp <;> omega
          simp only [Act.put, List.setIfInBounds_toArray, List.set_cons_zero, List.set_cons_succ]
          refine wpAnyT_take (oi := ⟨some 41, Op.load 23 (Operand.tmp 40), 23, _, _, none⟩) (v := .slice (some ⟨b, o, none⟩) L c) rfl (fun _ _ _ h => h) (by rfl) (by assumption) (fun wS hSw => ?_) ?_
          · (try dsimp only at hSw); subst hSw; go_simp <;> omega
          simp only [Act.put, List.setIfInBounds_toArray, List.set_cons_zero, List.set_cons_succ]
          refine wpAnyT_end ?_
          refine wpAnyH_listed #[true, true, true, false, false, false, true, true, true, false, false, false, false, true, false] (by kernel_rfl) ?_
          refine wpAnyT_begin [3, 9] (by kernel_rfl) (by kernel_rfl) ?_
          refine wpAnyT_take (oi := ⟨some 37, Op.indexAddr 23 (Operand.tmp 35) (Operand.tmp 36), 0, _, _, none⟩) (v := .pointer (some ⟨b, o + k * 5, none⟩)) rfl (fun _ _ _ h => h) (by rfl) (by assumption) (fun wS hSw => ?_) ?_
          · (try dsimp only at hSw); subst hSw; go_simp <;> omega
          simp only [Act.put, List.setIfInBounds_toArray, List.set_cons_zero, List.set_cons_succ]
          refine wpAnyT_take (oi := ⟨some 43, Op.indexAddr 23 (Operand.tmp 41) (Operand.tmp 42), 0, _, _, none⟩) (v := .pointer (some ⟨b, o + k * 5, none⟩)) rfl (fun _ _ _ h => h) (by rfl) (by assumption) (fun wS hSw => ?_) ?_
          · (try dsimp only at hSw); subst hSw; go_simp <;> omega
          simp only [Act.put, List.setIfInBounds_toArray, List.set_cons_zero, List.set_cons_succ]
          refine wpAnyT_end ?_
          refine wpAnyH_listed #[true, true, true, true, false, false, true, true, true, true, false, false, false, true, false] (by kernel_rfl) ?_
          refine wpAnyT_begin [4, 10] (by kernel_rfl) (by kernel_rfl) ?_
          refine wpAnyT_take (oi := ⟨some 38, Op.fieldAddr 30 (Operand.tmp 37) 1, 0, _, _, none⟩) (v := .pointer (some ⟨b, o + k * 5 + 1, none⟩)) rfl (fun _ _ _ h => h) (by rfl) (by assumption) (fun wS hSw => ?_) ?_
          · (try dsimp only at hSw); subst hSw; go_simp <;> omega
          simp only [Act.put, List.setIfInBounds_toArray, List.set_cons_zero, List.set_cons_succ]
          refine wpAnyT_take (oi := ⟨some 44, Op.fieldAddr 30 (Operand.tmp 43) 1, 0, _, _, none⟩) (v := .pointer (some ⟨b, o + k * 5 + 1, none⟩)) rfl (fun _ _ _ h => h) (by rfl) (by assumption) (fun wS hSw => ?_) ?_
          · (try dsimp only at hSw); subst hSw; go_simp <;> omega
          simp only [Act.put, List.setIfInBounds_toArray, List.set_cons_zero, List.set_cons_succ]
          refine wpAnyT_end ?_
          refine wpAnyH_listed #[true, true, true, true, true, false, true, true, true, true, true, false, false, true, false] (by kernel_rfl) ?_
          refine wpAnyT_begin [5, 11] (by kernel_rfl) (by kernel_rfl) ?_
          refine wpAnyT_take (oi := ⟨some 39, Op.load 3 (Operand.tmp 38), 3, _, _, none⟩) (v := .int .i64 at1) rfl (fun _ _ _ h => h) (by rfl) (by assumption) (fun wS hSw => ?_) ?_
          · (try dsimp only at hSw); subst hSw; go_simp <;> omega
          simp only [Act.put, List.setIfInBounds_toArray, List.set_cons_zero, List.set_cons_succ]
          refine wpAnyT_take (oi := ⟨some 45, Op.load 3 (Operand.tmp 44), 3, _, _, none⟩) (v := .int .i64 at1) rfl (fun _ _ _ h => h) (by rfl) (by assumption) (fun wS hSw => ?_) ?_
          · (try dsimp only at hSw); subst hSw; go_simp <;> omega
          simp only [Act.put, List.setIfInBounds_toArray, List.set_cons_zero, List.set_cons_succ]
          refine wpAnyT_end ?_
          refine wpAnyH_listed #[true, true, true, true, true, true, true, true, true, true, true, true, false, true, false] (by kernel_rfl) ?_
          refine wpAnyT_begin [12] (by kernel_rfl) (by kernel_rfl) ?_
          refine wpAnyT_take (oi := ⟨some 46, Op.binOp BinOp.mul 3 (Operand.tmp 39) (Operand.tmp 45) 3, 3, _, _, none⟩) (v := .int .i64 en) rfl (fun _ _ _ h => h) (by rfl) (by assumption) (fun wS hSw => ?_) ?_
          · (try dsimp only at hSw); subst hSw; go_simp <;> omega
          simp only [Act.put, List.setIfInBounds_toArray, List.set_cons_zero, List.set_cons_succ]
          refine wpAnyT_end ?_
          refine wpAnyH_listed #[true, true, true, true, true, true, true, true, true, true, true, true, true, true, false] (by kernel_rfl) ?_
          refine wpAnyT_begin [14] (by kernel_rfl) (by kernel_rfl) ?_
          refine wpAnyT_take (oi := ⟨some 48, Op.binOp BinOp.leq 3 (Operand.tmp 46) (Operand.tmp 47) 3, 4, _, _, none⟩) (v := .bool true) rfl (fun _ _ _ h => h) (by rfl) (by assumption) (fun wS hSw => ?_) ?_
          · (try dsimp only at hSw); subst hSw; go_simp <;> omega
          simp only [Act.put, List.setIfInBounds_toArray, List.set_cons_zero, List.set_cons_succ]
          refine wpAnyT_end ?_
          refine wpAnyH_listed #[true, true, true, true, true, true, true, true, true, true, true, true, true, true, true] (by kernel_rfl) ?_
          refine wpAnyH_done (by kernel_rfl) ?_ _
          clear hHeld
          clear k1 e5 hen
          go_wp2_with fail
          go_roundw
          case rel => exact ⟨k + 1, by omega, by go_num, by rw [hm2]; try rfl, C2⟩
          case measure => simp [RowKit.intOf]; omega
        · have hkn : ¬ k < n := fun q => hle (had.2 q)
          have hm2 : min (k + 1) n = mk := by omega
          clear had hkn hmk
          go_wp2_with fail
          refine wp_region_held_drew (S := fun wz => wz = wr.drew) (by kernel_rfl) rfl (fun hHeld => ?_)
          have C2 := C.drew
          generalize wr.drew = w5 at *
          have k1 := C2.fact (.head _) (i := 1) rfl
          obtain ⟨b, o, ki', id', ot', nn', rfl, hxx, e0, e5, e2, e3, e4⟩ := (HR.out.later C2.low).ev (k := k) (by omega)
          rw [Hat.out] at e5
          simp only at k1
          clear hxx e0 e2 e3 e4
          refine wpAnyT_begin [0, 2, 6, 8, 13] (by kernel_rfl) (by kernel_rfl) ?_
          refine wpAnyT_take (oi := ⟨some 34, Op.fieldAddr 25 (Operand.tmp 8) 1, 0, _, _, none⟩) (v := .pointer (some ⟨A, 1, none⟩)) rfl (fun _ _ _ h => h) (by rfl) (by assumption) (fun wS hSw => ?_) ?_
          · (try dsimp only at hSw); subst hSw; go_simp <;> omega
          simp only [Act.put, List.setIfInBounds_toArray, List.set_cons_zero, List.set_cons_succ]
          refine wpAnyT_take (oi := ⟨some 36, Op.move (Operand.tmp 12), 3, _, _, none⟩) (v := .int .i64 (k : Int)) rfl (fun _ _ _ h => h) (by rfl) (by assumption) (fun wS hSw => ?_) ?_
          · (try dsimp only at hSw); subst hSw; go_simp <;> omega
          simp only [Act.put, List.setIfInBounds_toArray, List.set_cons_zero, List.set_cons_succ]
          refine wpAnyT_take (oi := ⟨some 40, Op.fieldAddr 25 (Operand.tmp 8) 1, 0, _, _, none⟩) (v := .pointer (some ⟨A, 1, none⟩)) rfl (fun _ _ _ h => h) (by rfl) (by assumption) (fun wS hSw => ?_) ?_
          · (try dsimp only at hSw); subst hSw; go_simp <;> omega
          simp only [Act.put, List.setIfInBounds_toArray, List.set_cons_zero, List.set_cons_succ]
          refine wpAnyT_take (oi := ⟨some 42, Op.move (Operand.tmp 12), 3, _, _, none⟩) (v := .int .i64 (k : Int)) rfl (fun _ _ _ h => h) (by rfl) (by assumption) (fun wS hSw => ?_) ?_
          · (try dsimp only at hSw); subst hSw; go_simp <;> omega
          simp only [Act.put, List.setIfInBounds_toArray, List.set_cons_zero, List.set_cons_succ]
          refine wpAnyT_take (oi := ⟨some 47, Op.move (Operand.tmp 9), 3, _, _, none⟩) (v := .int .i64 (x : Int)) rfl (fun _ _ _ h => h) (by rfl) (by assumption) (fun wS hSw => ?_) ?_
          · (try dsimp only at hSw); subst hSw; go_simp <;> omega
          simp only [Act.put, List.setIfInBounds_toArray, List.set_cons_zero, List.set_cons_succ]
          refine wpAnyT_end ?_
          refine wpAnyH_listed #[true, false, true, false, false, false, true, false, true, false, false, false, false, true, false] (by kernel_rfl) ?_
          refine wpAnyT_begin [1, 7] (by kernel_rfl) (by kernel_rfl) ?_
          refine wpAnyT_take (oi := ⟨some 35, Op.load 23 (Operand.tmp 34), 23, _, _, none⟩) (v := .slice (some ⟨b, o, none⟩) L c) rfl (fun _ _ _ h => h) (by rfl) (by assumption) (fun wS hSw => ?_) ?_
          · (try dsimp only at hSw); subst hSw; go_simp <;> omega
          simp only [Act.put, List.setIfInBounds_toArray, List.set_cons_zero, List.set_cons_succ]
          refine wpAnyT_take (oi := ⟨some 41, Op.load 23 (Operand.tmp 40), 23, _, _, none⟩) (v := .slice (some ⟨b, o, none⟩) L c) rfl (fun _ _ _ h => h) (by rfl) (by assumption) (fun wS hSw => ?_) ?_
          · (try dsimp only at hSw); subst hSw; go_simp <;> omega
          simp only [Act.put, List.setIfInBounds_toArray, List.set_cons_zero, List.set_cons_succ]
          refine wpAnyT_end ?_
          refine wpAnyH_listed #[true, true, true, false, false, false, true, true, true, false, false, false, false, true, false] (by kernel_rfl) ?_
          refine wpAnyT_begin [3, 9] (by kernel_rfl) (by kernel_rfl) ?_
          refine wpAnyT_take (oi := ⟨some 37, Op.indexAddr 23 (Operand.tmp 35) (Operand.tmp 36), 0, _, _, none⟩) (v := .pointer (some ⟨b, o + k * 5, none⟩)) rfl (fun _ _ _ h => h) (by rfl) (by assumption) (fun wS hSw => ?_) ?_
          · (try dsimp only at hSw); subst hSw; go_simp <;> omega
          simp only [Act.put, List.setIfInBounds_toArray, List.set_cons_zero, List.set_cons_succ]
          refine wpAnyT_take (oi := ⟨some 43, Op.indexAddr 23 (Operand.tmp 41) (Operand.tmp 42), 0, _, _, none⟩) (v := .pointer (some ⟨b, o + k * 5, none⟩)) rfl (fun _ _ _ h => h) (by rfl) (by assumption) (fun wS hSw => ?_) ?_
          · (try dsimp only at hSw); subst hSw; go_simp <;> omega
          simp only [Act.put, List.setIfInBounds_toArray, List.set_cons_zero, List.set_cons_succ]
          refine wpAnyT_end ?_
          refine wpAnyH_listed #[true, true, true, true, false, false, true, true, true, true, false, false, false, true, false] (by kernel_rfl) ?_
          refine wpAnyT_begin [4, 10] (by kernel_rfl) (by kernel_rfl) ?_
          refine wpAnyT_take (oi := ⟨some 38, Op.fieldAddr 30 (Operand.tmp 37) 1, 0, _, _, none⟩) (v := .pointer (some ⟨b, o + k * 5 + 1, none⟩)) rfl (fun _ _ _ h => h) (by rfl) (by assumption) (fun wS hSw => ?_) ?_
          · (try dsimp only at hSw); subst hSw; go_simp <;> omega
          simp only [Act.put, List.setIfInBounds_toArray, List.set_cons_zero, List.set_cons_succ]
          refine wpAnyT_take (oi := ⟨some 44, Op.fieldAddr 30 (Operand.tmp 43) 1, 0, _, _, none⟩) (v := .pointer (some ⟨b, o + k * 5 + 1, none⟩)) rfl (fun _ _ _ h => h) (by rfl) (by assumption) (fun wS hSw => ?_) ?_
          · (try dsimp only at hSw); subst hSw; go_simp <;> omega
          simp only [Act.put, List.setIfInBounds_toArray, List.set_cons_zero, List.set_cons_succ]
          refine wpAnyT_end ?_
          refine wpAnyH_listed #[true, true, true, true, true, false, true, true, true, true, true, false, false, true, false] (by kernel_rfl) ?_
          refine wpAnyT_begin [5, 11] (by kernel_rfl) (by kernel_rfl) ?_
          refine wpAnyT_take (oi := ⟨some 39, Op.load 3 (Operand.tmp 38), 3, _, _, none⟩) (v := .int .i64 at1) rfl (fun _ _ _ h => h) (by rfl) (by assumption) (fun wS hSw => ?_) ?_
          · (try dsimp only at hSw); subst hSw; go_simp <;> omega
          simp only [Act.put, List.setIfInBounds_toArray, List.set_cons_zero, List.set_cons_succ]
          refine wpAnyT_take (oi := ⟨some 45, Op.load 3 (Operand.tmp 44), 3, _, _, none⟩) (v := .int .i64 at1) rfl (fun _ _ _ h => h) (by rfl) (by assumption) (fun wS hSw => ?_) ?_
          · (try dsimp only at hSw); subst hSw; go_simp <;> omega
          simp only [Act.put, List.setIfInBounds_toArray, List.set_cons_zero, List.set_cons_succ]
          refine wpAnyT_end ?_
          refine wpAnyH_listed #[true, true, true, true, true, true, true, true, true, true, true, true, false, true, false] (by kernel_rfl) ?_
          refine wpAnyT_begin [12] (by kernel_rfl) (by kernel_rfl) ?_
          refine wpAnyT_take (oi := ⟨some 46, Op.binOp BinOp.mul 3 (Operand.tmp 39) (Operand.tmp 45) 3, 3, _, _, none⟩) (v := .int .i64 en) rfl (fun _ _ _ h => h) (by rfl) (by assumption) (fun wS hSw => ?_) ?_
          · (try dsimp only at hSw); subst hSw; go_simp <;> omega
          simp only [Act.put, List.setIfInBounds_toArray, List.set_cons_zero, List.set_cons_succ]
          refine wpAnyT_end ?_
          refine wpAnyH_listed #[true, true, true, true, true, true, true, true, true, true, true, true, true, true, false] (by kernel_rfl) ?_
          refine wpAnyT_begin [14] (by kernel_rfl) (by kernel_rfl) ?_
          refine wpAnyT_take (oi := ⟨some 48, Op.binOp BinOp.leq 3 (Operand.tmp 46) (Operand.tmp 47) 3, 4, _, _, none⟩) (v := .bool false) rfl (fun _ _ _ h => h) (by rfl) (by assumption) (fun wS hSw => ?_) ?_
          · (try dsimp only at hSw); subst hSw; go_simp <;> omega
          simp only [Act.put, List.setIfInBounds_toArray, List.set_cons_zero, List.set_cons_succ]
          refine wpAnyT_end ?_
          refine wpAnyH_listed #[true, true, true, true, true, true, true, true, true, true, true, true, true, true, true] (by kernel_rfl) ?_
          refine wpAnyH_done (by kernel_rfl) ?_ _
          clear hHeld
          clear k1 e5 hen
          go_wp2_with fail
          go_roundw
          case rel => exact ⟨k + 1, by omega, by go_num, by rw [hm2], C2⟩
          case measure => simp [RowKit.intOf]; omega
      · obtain rfl : k = L := by omega
        have g5 : ¬ (k : Int) < k := by omega
        rw [show min k n = n by omega]
        obtain ⟨m, hm⟩ : ∃ m, doneN (y : Int) es = m := ⟨_, rfl⟩
        have hnm : (n : Int) ≤ m := by have := done_mono (show (x : Int) ≤ y by omega) es; rw [Hn.out, hm] at this; omega
        obtain ⟨s1, hs1⟩ : ∃ m, scV (x : Int) = m := ⟨_, rfl⟩
        obtain ⟨s2, hs2⟩ : ∃ m, scV (y : Int) = m := ⟨_, rfl⟩
        have hss : s1 ≤ s2 := by rw [← hs1, ← hs2]; exact sc_mono (by omega) (by omega)
        obtain ⟨t1, ht1⟩ : ∃ m, bandV (x : Int) = m := ⟨_, rfl⟩
        obtain ⟨t2, ht2⟩ : ∃ m, bandV (y : Int) = m := ⟨_, rfl⟩
        have htt : t1 ≤ t2 := by rw [← ht1, ← ht2]; exact band_mono (by omega)
        have Hm := Lib.hid hm
        have Hs1 := Lib.hid hs1
        have Hs2 := Lib.hid hs2
        have Ht1 := Lib.hid ht1
        have Ht2 := Lib.hid ht2
        have HCk := Lib.hid HA.out.check
        have HTop := Lib.hid (show doneN 1048576 es = k by rw [HA.out.done_top, hL])
        have HNeg := Lib.hid (done_neg es)
        clear hm hs1 hs2 ht1 ht2
        go_wp2_with fail
        clear k1
        have Ch0 := C.drew
        refine wp_region_held_drew (S := (fun wz => Has w2 [(A, [.int .i64 d, .slice a k c])] wz)) (by kernel_rfl) Ch0 (fun hHeld => ?_)
        generalize wr.drew = wh0 at *
        refine wpAnyT_begin [0] (by kernel_rfl) (by kernel_rfl) ?_
        refine wpAnyT_take (oi := ⟨some 51, Op.move (Operand.tmp 7), 4, _, _, none⟩) (v := .bool true) rfl (fun _ _ _ h => h) (by rfl) (by assumption) (fun wS hSw => ?_) ?_
        · (try dsimp only at hSw); have q0 := Has.fact hSw (.head _) (i := 0) rfl; have q1 := Has.fact hSw (.head _) (i := 1) rfl; simp only at q0 q1; go_simp <;> omega
        simp only [Act.put, List.setIfInBounds_toArray, List.set_cons_zero, List.set_cons_succ]
        refine wpAnyT_end ?_
        refine wpAnyH_listed #[true, false, false, false, false, false, false, false, false, false, false, false, false, false, false, false, false, false, false, false, false, false, false, false, false, false, false, false, false, false, false, false, false, false, false, false, false, false, false, false, false, false, false, false, false, false, false, false, false, false] (by kernel_rfl) ?_
        refine wpAnyT_begin [1] (by kernel_rfl) (by kernel_rfl) ?_
        refine wpAnyT_take (oi := ⟨some 52, Op.move (Operand.tmp 51), 4, _, _, none⟩) (v := .bool true) rfl (fun _ _ _ h => h) (by rfl) (by assumption) (fun wS hSw => ?_) ?_
        · (try dsimp only at hSw); have q0 := Has.fact hSw (.head _) (i := 0) rfl; have q1 := Has.fact hSw (.head _) (i := 1) rfl; simp only at q0 q1; go_simp <;> omega
        simp only [Act.put, List.setIfInBounds_toArray, List.set_cons_zero, List.set_cons_succ]
        refine wpAnyT_end ?_
        refine wpAnyH_listed #[true, true, false, false, false, false, false, false, false, false, false, false, false, false, false, false, false, false, false, false, false, false, false, false, false, false, false, false, false, false, false, false, false, false, false, false, false, false, false, false, false, false, false, false, false, false, false, false, false, false] (by kernel_rfl) ?_
        refine wpAnyT_begin [2] (by kernel_rfl) (by kernel_rfl) ?_
        refine wpAnyT_take (oi := ⟨some 53, Op.load 25 (Operand.tmp 8), 25, _, _, some (1, true)⟩) (v := .agg #[.int .i64 d, .slice a k c]) rfl (fun _ _ _ h => h) (by rfl) (by assumption) (fun wS hSw => ?_) ?_
        · (try dsimp only at hSw); have q0 := Has.fact hSw (.head _) (i := 0) rfl; have q1 := Has.fact hSw (.head _) (i := 1) rfl; simp only at q0 q1; go_simp <;> omega
        simp only [Act.put, List.setIfInBounds_toArray, List.set_cons_zero, List.set_cons_succ]
        refine wpAnyT_end ?_
        refine wpAnyH_listed #[true, true, true, false, false, false, false, false, false, false, false, false, false, false, false, false, false, false, false, false, false, false, false, false, false, false, false, false, false, false, false, false, false, false, false, false, false, false, false, false, false, false, false, false, false, false, false, false, false, false] (by kernel_rfl) ?_
        refine wpAnyH_ready (rs := [3]) (by kernel_rfl) (by simp) ?_
        refine AllReadyH.cons (o := ⟨some 54, Op.call { callee := Callee.value (Operand.func 11), args := #[Operand.tmp 53], argTypes := #[25] }, 33, _, _, some (1, true)⟩) rfl (fun K hK => ?_) AllReadyH.nil
        go_simp
        go_at_call 11
        refine (Has.call Ch0 (show Calls Try.prog 11 #[.agg #[.int .i64 d, .slice a k c]] _ fun e w' => e = .returned (.int .i64 0) ∧ Below _ _ w' from HCk.out ▸ check_any d _ es _ (HR.out.later Ch0.low))).mono ?_
        rintro e wh1 ⟨rfl, Ch1⟩
        go_wp2_with fail
        clear hHeld
        refine hK.out _ _ (Ch1) (fun hHeld => ?_)
        clear hK K
        try simp only [List.setIfInBounds_toArray, List.set_cons_zero, List.set_cons_succ]
        refine wpAnyH_listed #[true, true, true, true, false, false, false, false, false, false, false, false, false, false, false, false, false, false, false, false, false, false, false, false, false, false, false, false, false, false, false, false, false, false, false, false, false, false, false, false, false, false, false, false, false, false, false, false, false, false] (by kernel_rfl) ?_
        clear Ch0
        refine wpAnyT_begin [4] (by kernel_rfl) (by kernel_rfl) ?_
        refine wpAnyT_take (oi := ⟨some 55, Op.binOp BinOp.eql 33 (Operand.tmp 54) (Operand.const (Value.int IntKind.i64 0)) 33, 4, _, _, some (1, true)⟩) (v := .bool true) rfl (fun _ _ _ h => h) (by rfl) (by assumption) (fun wS hSw => ?_) ?_
        · (try dsimp only at hSw); have q0 := Has.fact hSw (.head _) (i := 0) rfl; have q1 := Has.fact hSw (.head _) (i := 1) rfl; simp only at q0 q1; go_simp <;> omega
        simp only [Act.put, List.setIfInBounds_toArray, List.set_cons_zero, List.set_cons_succ]
        refine wpAnyT_end ?_
        refine wpAnyH_listed #[true, true, true, true, true, false, false, false, false, false, false, false, false, false, false, false, false, false, false, false, false, false, false, false, false, false, false, false, false, false, false, false, false, false, false, false, false, false, false, false, false, false, false, false, false, false, false, false, false, false] (by kernel_rfl) ?_
        refine wpAnyT_begin [5] (by kernel_rfl) (by kernel_rfl) ?_
        refine wpAnyT_take (oi := ⟨some 56, Op.pick (Operand.tmp 52) (Operand.tmp 55) (Operand.const (Value.bool false)), 4, _, _, none⟩) (v := .bool true) rfl (fun _ _ _ h => h) (by rfl) (by assumption) (fun wS hSw => ?_) ?_
        · (try dsimp only at hSw); have q0 := Has.fact hSw (.head _) (i := 0) rfl; have q1 := Has.fact hSw (.head _) (i := 1) rfl; simp only at q0 q1; go_simp <;> omega
        simp only [Act.put, List.setIfInBounds_toArray, List.set_cons_zero, List.set_cons_succ]
        refine wpAnyT_end ?_
        refine wpAnyH_listed #[true, true, true, true, true, true, false, false, false, false, false, false, false, false, false, false, false, false, false, false, false, false, false, false, false, false, false, false, false, false, false, false, false, false, false, false, false, false, false, false, false, false, false, false, false, false, false, false, false, false] (by kernel_rfl) ?_
        refine wpAnyT_begin [6] (by kernel_rfl) (by kernel_rfl) ?_
        refine wpAnyT_take (oi := ⟨some 57, Op.move (Operand.tmp 56), 4, _, _, none⟩) (v := .bool true) rfl (fun _ _ _ h => h) (by rfl) (by assumption) (fun wS hSw => ?_) ?_
        · (try dsimp only at hSw); have q0 := Has.fact hSw (.head _) (i := 0) rfl; have q1 := Has.fact hSw (.head _) (i := 1) rfl; simp only at q0 q1; go_simp <;> omega
        simp only [Act.put, List.setIfInBounds_toArray, List.set_cons_zero, List.set_cons_succ]
        refine wpAnyT_end ?_
        refine wpAnyH_listed #[true, true, true, true, true, true, true, false, false, false, false, false, false, false, false, false, false, false, false, false, false, false, false, false, false, false, false, false, false, false, false, false, false, false, false, false, false, false, false, false, false, false, false, false, false, false, false, false, false, false] (by kernel_rfl) ?_
        refine wpAnyT_begin [7, 8, 10] (by kernel_rfl) (by kernel_rfl) ?_
        refine wpAnyT_take (oi := ⟨some 58, Op.load 25 (Operand.tmp 8), 25, _, _, some (6, true)⟩) (v := .agg #[.int .i64 d, .slice a k c]) rfl (fun _ _ _ h => h) (by rfl) (by assumption) (fun wS hSw => ?_) ?_
        · (try dsimp only at hSw); have q0 := Has.fact hSw (.head _) (i := 0) rfl; have q1 := Has.fact hSw (.head _) (i := 1) rfl; simp only at q0 q1; go_simp <;> omega
        simp only [Act.put, List.setIfInBounds_toArray, List.set_cons_zero, List.set_cons_succ]
        refine wpAnyT_take (oi := ⟨some 59, Op.move (Operand.tmp 9), 3, _, _, some (6, true)⟩) (v := .int .i64 (x : Int)) rfl (fun _ _ _ h => h) (by rfl) (by assumption) (fun wS hSw => ?_) ?_
        · (try dsimp only at hSw); have q0 := Has.fact hSw (.head _) (i := 0) rfl; have q1 := Has.fact hSw (.head _) (i := 1) rfl; simp only at q0 q1; go_simp <;> omega
        simp only [Act.put, List.setIfInBounds_toArray, List.set_cons_zero, List.set_cons_succ]
        refine wpAnyT_take (oi := ⟨some 61, Op.move (Operand.tmp 11), 3, _, _, some (6, true)⟩) (v := .int .i64 (n : Int)) rfl (fun _ _ _ h => h) (by rfl) (by assumption) (fun wS hSw => ?_) ?_
        · (try dsimp only at hSw); have q0 := Has.fact hSw (.head _) (i := 0) rfl; have q1 := Has.fact hSw (.head _) (i := 1) rfl; simp only at q0 q1; go_simp <;> omega
        simp only [Act.put, List.setIfInBounds_toArray, List.set_cons_zero, List.set_cons_succ]
        refine wpAnyT_end ?_
        refine wpAnyH_listed #[true, true, true, true, true, true, true, true, true, false, true, false, false, false, false, false, false, false, false, false, false, false, false, false, false, false, false, false, false, false, false, false, false, false, false, false, false, false, false, false, false, false, false, false, false, false, false, false, false, false] (by kernel_rfl) ?_
        refine wpAnyH_ready (rs := [9]) (by kernel_rfl) (by simp) ?_
        refine AllReadyH.cons (o := ⟨some 60, Op.call { callee := Callee.value (Operand.func 15), args := #[Operand.tmp 58, Operand.tmp 59], argTypes := #[25, 3] }, 3, _, _, some (6, true)⟩) rfl (fun K hK => ?_) AllReadyH.nil
        go_simp
        go_at_call 15
        refine (Has.call Ch1 (show Calls Try.prog 15 #[.agg #[.int .i64 d, .slice a k c], .int .i64 (x : Int)] _ fun e w' => e = .returned (.int .i64 (n : Int)) ∧ Below _ _ w' from by have hq := done_any d _ es (x : Int) _ (HR.out.later Ch1.low); rw [Hn.out] at hq; exact hq)).mono ?_
        rintro e wh2 ⟨rfl, Ch2⟩
        go_wp2_with fail
        clear hHeld
        refine hK.out _ _ (Ch2) (fun hHeld => ?_)
        clear hK K
        try simp only [List.setIfInBounds_toArray, List.set_cons_zero, List.set_cons_succ]
        refine wpAnyH_listed #[true, true, true, true, true, true, true, true, true, true, true, false, false, false, false, false, false, false, false, false, false, false, false, false, false, false, false, false, false, false, false, false, false, false, false, false, false, false, false, false, false, false, false, false, false, false, false, false, false, false] (by kernel_rfl) ?_
        clear Ch1
        refine wpAnyT_begin [11] (by kernel_rfl) (by kernel_rfl) ?_
        refine wpAnyT_take (oi := ⟨some 62, Op.binOp BinOp.eql 3 (Operand.tmp 60) (Operand.tmp 61) 3, 4, _, _, some (6, true)⟩) (v := .bool true) rfl (fun _ _ _ h => h) (by rfl) (by assumption) (fun wS hSw => ?_) ?_
        · (try dsimp only at hSw); have q0 := Has.fact hSw (.head _) (i := 0) rfl; have q1 := Has.fact hSw (.head _) (i := 1) rfl; simp only at q0 q1; go_simp <;> omega
        simp only [Act.put, List.setIfInBounds_toArray, List.set_cons_zero, List.set_cons_succ]
        refine wpAnyT_end ?_
        refine wpAnyH_listed #[true, true, true, true, true, true, true, true, true, true, true, true, false, false, false, false, false, false, false, false, false, false, false, false, false, false, false, false, false, false, false, false, false, false, false, false, false, false, false, false, false, false, false, false, false, false, false, false, false, false] (by kernel_rfl) ?_
        refine wpAnyT_begin [12] (by kernel_rfl) (by kernel_rfl) ?_
        refine wpAnyT_take (oi := ⟨some 63, Op.pick (Operand.tmp 57) (Operand.tmp 62) (Operand.const (Value.bool false)), 4, _, _, none⟩) (v := .bool true) rfl (fun _ _ _ h => h) (by rfl) (by assumption) (fun wS hSw => ?_) ?_
        · (try dsimp only at hSw); have q0 := Has.fact hSw (.head _) (i := 0) rfl; have q1 := Has.fact hSw (.head _) (i := 1) rfl; simp only at q0 q1; go_simp <;> omega
        simp only [Act.put, List.setIfInBounds_toArray, List.set_cons_zero, List.set_cons_succ]
        refine wpAnyT_end ?_
        refine wpAnyH_listed #[true, true, true, true, true, true, true, true, true, true, true, true, true, false, false, false, false, false, false, false, false, false, false, false, false, false, false, false, false, false, false, false, false, false, false, false, false, false, false, false, false, false, false, false, false, false, false, false, false, false] (by kernel_rfl) ?_
        refine wpAnyT_begin [13] (by kernel_rfl) (by kernel_rfl) ?_
        refine wpAnyT_take (oi := ⟨some 64, Op.move (Operand.tmp 63), 4, _, _, none⟩) (v := .bool true) rfl (fun _ _ _ h => h) (by rfl) (by assumption) (fun wS hSw => ?_) ?_
        · (try dsimp only at hSw); have q0 := Has.fact hSw (.head _) (i := 0) rfl; have q1 := Has.fact hSw (.head _) (i := 1) rfl; simp only at q0 q1; go_simp <;> omega
        simp only [Act.put, List.setIfInBounds_toArray, List.set_cons_zero, List.set_cons_succ]
        refine wpAnyT_end ?_
        refine wpAnyH_listed #[true, true, true, true, true, true, true, true, true, true, true, true, true, true, false, false, false, false, false, false, false, false, false, false, false, false, false, false, false, false, false, false, false, false, false, false, false, false, false, false, false, false, false, false, false, false, false, false, false, false] (by kernel_rfl) ?_
        refine wpAnyT_begin [14, 15, 17, 18] (by kernel_rfl) (by kernel_rfl) ?_
        refine wpAnyT_take (oi := ⟨some 65, Op.load 25 (Operand.tmp 8), 25, _, _, some (13, true)⟩) (v := .agg #[.int .i64 d, .slice a k c]) rfl (fun _ _ _ h => h) (by rfl) (by assumption) (fun wS hSw => ?_) ?_
        · (try dsimp only at hSw); have q0 := Has.fact hSw (.head _) (i := 0) rfl; have q1 := Has.fact hSw (.head _) (i := 1) rfl; simp only at q0 q1; go_simp <;> omega
        simp only [Act.put, List.setIfInBounds_toArray, List.set_cons_zero, List.set_cons_succ]
        refine wpAnyT_take (oi := ⟨some 66, Op.move (Operand.tmp 9), 3, _, _, some (13, true)⟩) (v := .int .i64 (x : Int)) rfl (fun _ _ _ h => h) (by rfl) (by assumption) (fun wS hSw => ?_) ?_
        · (try dsimp only at hSw); have q0 := Has.fact hSw (.head _) (i := 0) rfl; have q1 := Has.fact hSw (.head _) (i := 1) rfl; simp only at q0 q1; go_simp <;> omega
        simp only [Act.put, List.setIfInBounds_toArray, List.set_cons_zero, List.set_cons_succ]
        refine wpAnyT_take (oi := ⟨some 68, Op.load 25 (Operand.tmp 8), 25, _, _, some (13, true)⟩) (v := .agg #[.int .i64 d, .slice a k c]) rfl (fun _ _ _ h => h) (by rfl) (by assumption) (fun wS hSw => ?_) ?_
        · (try dsimp only at hSw); have q0 := Has.fact hSw (.head _) (i := 0) rfl; have q1 := Has.fact hSw (.head _) (i := 1) rfl; simp only at q0 q1; go_simp <;> omega
        simp only [Act.put, List.setIfInBounds_toArray, List.set_cons_zero, List.set_cons_succ]
        refine wpAnyT_take (oi := ⟨some 69, Op.move (Operand.tmp 10), 3, _, _, some (13, true)⟩) (v := .int .i64 (y : Int)) rfl (fun _ _ _ h => h) (by rfl) (by assumption) (fun wS hSw => ?_) ?_
        · (try dsimp only at hSw); have q0 := Has.fact hSw (.head _) (i := 0) rfl; have q1 := Has.fact hSw (.head _) (i := 1) rfl; simp only at q0 q1; go_simp <;> omega
        simp only [Act.put, List.setIfInBounds_toArray, List.set_cons_zero, List.set_cons_succ]
        refine wpAnyT_end ?_
        refine wpAnyH_listed #[true, true, true, true, true, true, true, true, true, true, true, true, true, true, true, true, false, true, true, false, false, false, false, false, false, false, false, false, false, false, false, false, false, false, false, false, false, false, false, false, false, false, false, false, false, false, false, false, false, false] (by kernel_rfl) ?_
        refine wpAnyH_ready (rs := [16]) (by kernel_rfl) (by simp) ?_
        refine AllReadyH.cons (o := ⟨some 67, Op.call { callee := Callee.value (Operand.func 15), args := #[Operand.tmp 65, Operand.tmp 66], argTypes := #[25, 3] }, 3, _, _, some (13, true)⟩) rfl (fun K hK => ?_) AllReadyH.nil
        go_simp
        go_at_call 15
        refine (Has.call Ch2 (show Calls Try.prog 15 #[.agg #[.int .i64 d, .slice a k c], .int .i64 (x : Int)] _ fun e w' => e = .returned (.int .i64 (n : Int)) ∧ Below _ _ w' from by have hq := done_any d _ es (x : Int) _ (HR.out.later Ch2.low); rw [Hn.out] at hq; exact hq)).mono ?_
        rintro e wh3 ⟨rfl, Ch3⟩
        go_wp2_with fail
        clear hHeld
        refine hK.out _ _ (Ch3) (fun hHeld => ?_)
        clear hK K
        try simp only [List.setIfInBounds_toArray, List.set_cons_zero, List.set_cons_succ]
        refine wpAnyH_listed #[true, true, true, true, true, true, true, true, true, true, true, true, true, true, true, true, true, true, true, false, false, false, false, false, false, false, false, false, false, false, false, false, false, false, false, false, false, false, false, false, false, false, false, false, false, false, false, false, false, false] (by kernel_rfl) ?_
        clear Ch2
        refine wpAnyH_ready (rs := [19]) (by kernel_rfl) (by simp) ?_
        refine AllReadyH.cons (o := ⟨some 70, Op.call { callee := Callee.value (Operand.func 15), args := #[Operand.tmp 68, Operand.tmp 69], argTypes := #[25, 3] }, 3, _, _, some (13, true)⟩) rfl (fun K hK => ?_) AllReadyH.nil
        go_simp
        go_at_call 15
        refine (Has.call Ch3 (show Calls Try.prog 15 #[.agg #[.int .i64 d, .slice a k c], .int .i64 (y : Int)] _ fun e w' => e = .returned (.int .i64 (m : Int)) ∧ Below _ _ w' from by have hq := done_any d _ es (y : Int) _ (HR.out.later Ch3.low); rw [Hm.out] at hq; exact hq)).mono ?_
        rintro e wh4 ⟨rfl, Ch4⟩
        go_wp2_with fail
        clear hHeld
        refine hK.out _ _ (Ch4) (fun hHeld => ?_)
        clear hK K
        try simp only [List.setIfInBounds_toArray, List.set_cons_zero, List.set_cons_succ]
        refine wpAnyH_listed #[true, true, true, true, true, true, true, true, true, true, true, true, true, true, true, true, true, true, true, true, false, false, false, false, false, false, false, false, false, false, false, false, false, false, false, false, false, false, false, false, false, false, false, false, false, false, false, false, false, false] (by kernel_rfl) ?_
        clear Ch3
        refine wpAnyT_begin [20] (by kernel_rfl) (by kernel_rfl) ?_
        refine wpAnyT_take (oi := ⟨some 71, Op.binOp BinOp.leq 3 (Operand.tmp 67) (Operand.tmp 70) 3, 4, _, _, some (13, true)⟩) (v := .bool true) rfl (fun _ _ _ h => h) (by rfl) (by assumption) (fun wS hSw => ?_) ?_
        · (try dsimp only at hSw); have q0 := Has.fact hSw (.head _) (i := 0) rfl; have q1 := Has.fact hSw (.head _) (i := 1) rfl; simp only at q0 q1; go_simp <;> omega
        simp only [Act.put, List.setIfInBounds_toArray, List.set_cons_zero, List.set_cons_succ]
        refine wpAnyT_end ?_
        refine wpAnyH_listed #[true, true, true, true, true, true, true, true, true, true, true, true, true, true, true, true, true, true, true, true, true, false, false, false, false, false, false, false, false, false, false, false, false, false, false, false, false, false, false, false, false, false, false, false, false, false, false, false, false, false] (by kernel_rfl) ?_
        refine wpAnyT_begin [21] (by kernel_rfl) (by kernel_rfl) ?_
        refine wpAnyT_take (oi := ⟨some 72, Op.pick (Operand.tmp 64) (Operand.tmp 71) (Operand.const (Value.bool false)), 4, _, _, none⟩) (v := .bool true) rfl (fun _ _ _ h => h) (by rfl) (by assumption) (fun wS hSw => ?_) ?_
        · (try dsimp only at hSw); have q0 := Has.fact hSw (.head _) (i := 0) rfl; have q1 := Has.fact hSw (.head _) (i := 1) rfl; simp only at q0 q1; go_simp <;> omega
        simp only [Act.put, List.setIfInBounds_toArray, List.set_cons_zero, List.set_cons_succ]
        refine wpAnyT_end ?_
        refine wpAnyH_listed #[true, true, true, true, true, true, true, true, true, true, true, true, true, true, true, true, true, true, true, true, true, true, false, false, false, false, false, false, false, false, false, false, false, false, false, false, false, false, false, false, false, false, false, false, false, false, false, false, false, false] (by kernel_rfl) ?_
        refine wpAnyT_begin [22] (by kernel_rfl) (by kernel_rfl) ?_
        refine wpAnyT_take (oi := ⟨some 73, Op.move (Operand.tmp 72), 4, _, _, none⟩) (v := .bool true) rfl (fun _ _ _ h => h) (by rfl) (by assumption) (fun wS hSw => ?_) ?_
        · (try dsimp only at hSw); have q0 := Has.fact hSw (.head _) (i := 0) rfl; have q1 := Has.fact hSw (.head _) (i := 1) rfl; simp only at q0 q1; go_simp <;> omega
        simp only [Act.put, List.setIfInBounds_toArray, List.set_cons_zero, List.set_cons_succ]
        refine wpAnyT_end ?_
        refine wpAnyH_listed #[true, true, true, true, true, true, true, true, true, true, true, true, true, true, true, true, true, true, true, true, true, true, true, false, false, false, false, false, false, false, false, false, false, false, false, false, false, false, false, false, false, false, false, false, false, false, false, false, false, false] (by kernel_rfl) ?_
        refine wpAnyT_begin [23] (by kernel_rfl) (by kernel_rfl) ?_
        refine wpAnyT_take (oi := ⟨some 74, Op.load 25 (Operand.tmp 8), 25, _, _, some (22, true)⟩) (v := .agg #[.int .i64 d, .slice a k c]) rfl (fun _ _ _ h => h) (by rfl) (by assumption) (fun wS hSw => ?_) ?_
        · (try dsimp only at hSw); have q0 := Has.fact hSw (.head _) (i := 0) rfl; have q1 := Has.fact hSw (.head _) (i := 1) rfl; simp only at q0 q1; go_simp <;> omega
        simp only [Act.put, List.setIfInBounds_toArray, List.set_cons_zero, List.set_cons_succ]
        refine wpAnyT_end ?_
        refine wpAnyH_listed #[true, true, true, true, true, true, true, true, true, true, true, true, true, true, true, true, true, true, true, true, true, true, true, true, false, false, false, false, false, false, false, false, false, false, false, false, false, false, false, false, false, false, false, false, false, false, false, false, false, false] (by kernel_rfl) ?_
        refine wpAnyH_ready (rs := [24]) (by kernel_rfl) (by simp) ?_
        refine AllReadyH.cons (o := ⟨some 75, Op.call { callee := Callee.value (Operand.func 15), args := #[Operand.tmp 74, Operand.const (Value.int IntKind.i64 (-1))], argTypes := #[25, 3] }, 3, _, _, some (22, true)⟩) rfl (fun K hK => ?_) AllReadyH.nil
        go_simp
        go_at_call 15
        refine (Has.call Ch4 (show Calls Try.prog 15 #[.agg #[.int .i64 d, .slice a k c], .int .i64 (-1)] _ fun e w' => e = .returned (.int .i64 ((0 : Nat) : Int)) ∧ Below _ _ w' from by have hq := done_any d _ es (-1) _ (HR.out.later Ch4.low); rw [HNeg.out] at hq; exact hq)).mono ?_
        rintro e wh5 ⟨rfl, Ch5⟩
        go_wp2_with fail
        clear hHeld
        refine hK.out _ _ (Ch5) (fun hHeld => ?_)
        clear hK K
        try simp only [List.setIfInBounds_toArray, List.set_cons_zero, List.set_cons_succ]
        refine wpAnyH_listed #[true, true, true, true, true, true, true, true, true, true, true, true, true, true, true, true, true, true, true, true, true, true, true, true, true, false, false, false, false, false, false, false, false, false, false, false, false, false, false, false, false, false, false, false, false, false, false, false, false, false] (by kernel_rfl) ?_
        clear Ch4
        refine wpAnyT_begin [25] (by kernel_rfl) (by kernel_rfl) ?_
        refine wpAnyT_take (oi := ⟨some 76, Op.binOp BinOp.eql 3 (Operand.tmp 75) (Operand.const (Value.int IntKind.i64 0)) 3, 4, _, _, some (22, true)⟩) (v := .bool true) rfl (fun _ _ _ h => h) (by rfl) (by assumption) (fun wS hSw => ?_) ?_
        · (try dsimp only at hSw); have q0 := Has.fact hSw (.head _) (i := 0) rfl; have q1 := Has.fact hSw (.head _) (i := 1) rfl; simp only at q0 q1; go_simp <;> omega
        simp only [Act.put, List.setIfInBounds_toArray, List.set_cons_zero, List.set_cons_succ]
        refine wpAnyT_end ?_
        refine wpAnyH_listed #[true, true, true, true, true, true, true, true, true, true, true, true, true, true, true, true, true, true, true, true, true, true, true, true, true, true, false, false, false, false, false, false, false, false, false, false, false, false, false, false, false, false, false, false, false, false, false, false, false, false] (by kernel_rfl) ?_
        refine wpAnyT_begin [26] (by kernel_rfl) (by kernel_rfl) ?_
        refine wpAnyT_take (oi := ⟨some 77, Op.pick (Operand.tmp 73) (Operand.tmp 76) (Operand.const (Value.bool false)), 4, _, _, none⟩) (v := .bool true) rfl (fun _ _ _ h => h) (by rfl) (by assumption) (fun wS hSw => ?_) ?_
        · (try dsimp only at hSw); have q0 := Has.fact hSw (.head _) (i := 0) rfl; have q1 := Has.fact hSw (.head _) (i := 1) rfl; simp only at q0 q1; go_simp <;> omega
        simp only [Act.put, List.setIfInBounds_toArray, List.set_cons_zero, List.set_cons_succ]
        refine wpAnyT_end ?_
        refine wpAnyH_listed #[true, true, true, true, true, true, true, true, true, true, true, true, true, true, true, true, true, true, true, true, true, true, true, true, true, true, true, false, false, false, false, false, false, false, false, false, false, false, false, false, false, false, false, false, false, false, false, false, false, false] (by kernel_rfl) ?_
        refine wpAnyT_begin [27] (by kernel_rfl) (by kernel_rfl) ?_
        refine wpAnyT_take (oi := ⟨some 78, Op.move (Operand.tmp 77), 4, _, _, none⟩) (v := .bool true) rfl (fun _ _ _ h => h) (by rfl) (by assumption) (fun wS hSw => ?_) ?_
        · (try dsimp only at hSw); have q0 := Has.fact hSw (.head _) (i := 0) rfl; have q1 := Has.fact hSw (.head _) (i := 1) rfl; simp only at q0 q1; go_simp <;> omega
        simp only [Act.put, List.setIfInBounds_toArray, List.set_cons_zero, List.set_cons_succ]
        refine wpAnyT_end ?_
        refine wpAnyH_listed #[true, true, true, true, true, true, true, true, true, true, true, true, true, true, true, true, true, true, true, true, true, true, true, true, true, true, true, true, false, false, false, false, false, false, false, false, false, false, false, false, false, false, false, false, false, false, false, false, false, false] (by kernel_rfl) ?_
        refine wpAnyT_begin [28, 30] (by kernel_rfl) (by kernel_rfl) ?_
        refine wpAnyT_take (oi := ⟨some 79, Op.load 25 (Operand.tmp 8), 25, _, _, some (27, true)⟩) (v := .agg #[.int .i64 d, .slice a k c]) rfl (fun _ _ _ h => h) (by rfl) (by assumption) (fun wS hSw => ?_) ?_
        · (try dsimp only at hSw); have q0 := Has.fact hSw (.head _) (i := 0) rfl; have q1 := Has.fact hSw (.head _) (i := 1) rfl; simp only at q0 q1; go_simp <;> omega
        simp only [Act.put, List.setIfInBounds_toArray, List.set_cons_zero, List.set_cons_succ]
        refine wpAnyT_take (oi := ⟨some 81, Op.fieldAddr 25 (Operand.tmp 8) 1, 0, _, _, some (27, true)⟩) (v := .pointer (some ⟨A, 1, none⟩)) rfl (fun _ _ _ h => h) (by rfl) (by assumption) (fun wS hSw => ?_) ?_
        · (try dsimp only at hSw); have q0 := Has.fact hSw (.head _) (i := 0) rfl; have q1 := Has.fact hSw (.head _) (i := 1) rfl; simp only at q0 q1; go_simp <;> omega
        simp only [Act.put, List.setIfInBounds_toArray, List.set_cons_zero, List.set_cons_succ]
        refine wpAnyT_end ?_
        refine wpAnyH_listed #[true, true, true, true, true, true, true, true, true, true, true, true, true, true, true, true, true, true, true, true, true, true, true, true, true, true, true, true, true, false, true, false, false, false, false, false, false, false, false, false, false, false, false, false, false, false, false, false, false, false] (by kernel_rfl) ?_
        refine wpAnyT_begin [31] (by kernel_rfl) (by kernel_rfl) ?_
        refine wpAnyT_take (oi := ⟨some 82, Op.load 23 (Operand.tmp 81), 23, _, _, some (27, true)⟩) (v := .slice a k c) rfl (fun _ _ _ h => h) (by rfl) (by assumption) (fun wS hSw => ?_) ?_
        · (try dsimp only at hSw); have q0 := Has.fact hSw (.head _) (i := 0) rfl; have q1 := Has.fact hSw (.head _) (i := 1) rfl; simp only at q0 q1; go_simp <;> omega
        simp only [Act.put, List.setIfInBounds_toArray, List.set_cons_zero, List.set_cons_succ]
        refine wpAnyT_end ?_
        refine wpAnyH_listed #[true, true, true, true, true, true, true, true, true, true, true, true, true, true, true, true, true, true, true, true, true, true, true, true, true, true, true, true, true, false, true, true, false, false, false, false, false, false, false, false, false, false, false, false, false, false, false, false, false, false] (by kernel_rfl) ?_
        refine wpAnyT_begin [32] (by kernel_rfl) (by kernel_rfl) ?_
        refine wpAnyT_take (oi := ⟨some 83, Op.call { callee := Callee.builtin Builtin.len, args := #[Operand.tmp 82], argTypes := #[23] }, 3, _, _, some (27, true)⟩) (v := .int .i64 (k : Int)) rfl (fun _ _ _ h => h) (by rfl) (by assumption) (fun wS hSw => ?_) ?_
        · (try dsimp only at hSw); have q0 := Has.fact hSw (.head _) (i := 0) rfl; have q1 := Has.fact hSw (.head _) (i := 1) rfl; simp only at q0 q1; go_simp <;> omega
        simp only [Act.put, List.setIfInBounds_toArray, List.set_cons_zero, List.set_cons_succ]
        refine wpAnyT_end ?_
        refine wpAnyH_listed #[true, true, true, true, true, true, true, true, true, true, true, true, true, true, true, true, true, true, true, true, true, true, true, true, true, true, true, true, true, false, true, true, true, false, false, false, false, false, false, false, false, false, false, false, false, false, false, false, false, false] (by kernel_rfl) ?_
        refine wpAnyH_ready (rs := [29]) (by kernel_rfl) (by simp) ?_
        refine AllReadyH.cons (o := ⟨some 80, Op.call { callee := Callee.value (Operand.func 15), args := #[Operand.tmp 79, Operand.const (Value.int IntKind.i64 1048576)], argTypes := #[25, 3] }, 3, _, _, some (27, true)⟩) rfl (fun K hK => ?_) AllReadyH.nil
        go_simp
        go_at_call 15
        refine (Has.call Ch5 (show Calls Try.prog 15 #[.agg #[.int .i64 d, .slice a k c], .int .i64 1048576] _ fun e w' => e = .returned (.int .i64 (k : Int)) ∧ Below _ _ w' from by have hq := done_any d _ es 1048576 _ (HR.out.later Ch5.low); rw [HTop.out] at hq; exact hq)).mono ?_
        rintro e wh6 ⟨rfl, Ch6⟩
        go_wp2_with fail
        clear hHeld
        refine hK.out _ _ (Ch6) (fun hHeld => ?_)
        clear hK K
        try simp only [List.setIfInBounds_toArray, List.set_cons_zero, List.set_cons_succ]
        refine wpAnyH_listed #[true, true, true, true, true, true, true, true, true, true, true, true, true, true, true, true, true, true, true, true, true, true, true, true, true, true, true, true, true, true, true, true, true, false, false, false, false, false, false, false, false, false, false, false, false, false, false, false, false, false] (by kernel_rfl) ?_
        clear Ch5
        refine wpAnyT_begin [33] (by kernel_rfl) (by kernel_rfl) ?_
        refine wpAnyT_take (oi := ⟨some 84, Op.binOp BinOp.eql 3 (Operand.tmp 80) (Operand.tmp 83) 3, 4, _, _, some (27, true)⟩) (v := .bool true) rfl (fun _ _ _ h => h) (by rfl) (by assumption) (fun wS hSw => ?_) ?_
        · (try dsimp only at hSw); have q0 := Has.fact hSw (.head _) (i := 0) rfl; have q1 := Has.fact hSw (.head _) (i := 1) rfl; simp only at q0 q1; go_simp <;> omega
        simp only [Act.put, List.setIfInBounds_toArray, List.set_cons_zero, List.set_cons_succ]
        refine wpAnyT_end ?_
        refine wpAnyH_listed #[true, true, true, true, true, true, true, true, true, true, true, true, true, true, true, true, true, true, true, true, true, true, true, true, true, true, true, true, true, true, true, true, true, true, false, false, false, false, false, false, false, false, false, false, false, false, false, false, false, false] (by kernel_rfl) ?_
        refine wpAnyT_begin [34] (by kernel_rfl) (by kernel_rfl) ?_
        refine wpAnyT_take (oi := ⟨some 85, Op.pick (Operand.tmp 78) (Operand.tmp 84) (Operand.const (Value.bool false)), 4, _, _, none⟩) (v := .bool true) rfl (fun _ _ _ h => h) (by rfl) (by assumption) (fun wS hSw => ?_) ?_
        · (try dsimp only at hSw); have q0 := Has.fact hSw (.head _) (i := 0) rfl; have q1 := Has.fact hSw (.head _) (i := 1) rfl; simp only at q0 q1; go_simp <;> omega
        simp only [Act.put, List.setIfInBounds_toArray, List.set_cons_zero, List.set_cons_succ]
        refine wpAnyT_end ?_
        refine wpAnyH_listed #[true, true, true, true, true, true, true, true, true, true, true, true, true, true, true, true, true, true, true, true, true, true, true, true, true, true, true, true, true, true, true, true, true, true, true, false, false, false, false, false, false, false, false, false, false, false, false, false, false, false] (by kernel_rfl) ?_
        refine wpAnyT_begin [35] (by kernel_rfl) (by kernel_rfl) ?_
        refine wpAnyT_take (oi := ⟨some 86, Op.move (Operand.tmp 85), 4, _, _, none⟩) (v := .bool true) rfl (fun _ _ _ h => h) (by rfl) (by assumption) (fun wS hSw => ?_) ?_
        · (try dsimp only at hSw); have q0 := Has.fact hSw (.head _) (i := 0) rfl; have q1 := Has.fact hSw (.head _) (i := 1) rfl; simp only at q0 q1; go_simp <;> omega
        simp only [Act.put, List.setIfInBounds_toArray, List.set_cons_zero, List.set_cons_succ]
        refine wpAnyT_end ?_
        refine wpAnyH_listed #[true, true, true, true, true, true, true, true, true, true, true, true, true, true, true, true, true, true, true, true, true, true, true, true, true, true, true, true, true, true, true, true, true, true, true, true, false, false, false, false, false, false, false, false, false, false, false, false, false, false] (by kernel_rfl) ?_
        refine wpAnyT_begin [36, 38] (by kernel_rfl) (by kernel_rfl) ?_
        refine wpAnyT_take (oi := ⟨some 87, Op.move (Operand.tmp 9), 3, _, _, some (35, true)⟩) (v := .int .i64 (x : Int)) rfl (fun _ _ _ h => h) (by rfl) (by assumption) (fun wS hSw => ?_) ?_
        · (try dsimp only at hSw); have q0 := Has.fact hSw (.head _) (i := 0) rfl; have q1 := Has.fact hSw (.head _) (i := 1) rfl; simp only at q0 q1; go_simp <;> omega
        simp only [Act.put, List.setIfInBounds_toArray, List.set_cons_zero, List.set_cons_succ]
        refine wpAnyT_take (oi := ⟨some 89, Op.move (Operand.tmp 10), 3, _, _, some (35, true)⟩) (v := .int .i64 (y : Int)) rfl (fun _ _ _ h => h) (by rfl) (by assumption) (fun wS hSw => ?_) ?_
        · (try dsimp only at hSw); have q0 := Has.fact hSw (.head _) (i := 0) rfl; have q1 := Has.fact hSw (.head _) (i := 1) rfl; simp only at q0 q1; go_simp <;> omega
        simp only [Act.put, List.setIfInBounds_toArray, List.set_cons_zero, List.set_cons_succ]
        refine wpAnyT_end ?_
        refine wpAnyH_listed #[true, true, true, true, true, true, true, true, true, true, true, true, true, true, true, true, true, true, true, true, true, true, true, true, true, true, true, true, true, true, true, true, true, true, true, true, true, false, true, false, false, false, false, false, false, false, false, false, false, false] (by kernel_rfl) ?_
        refine wpAnyH_ready (rs := [37]) (by kernel_rfl) (by simp) ?_
        refine AllReadyH.cons (o := ⟨some 88, Op.call { callee := Callee.value (Operand.func 17), args := #[Operand.tmp 87], argTypes := #[3] }, 3, _, _, some (35, true)⟩) rfl (fun K hK => ?_) AllReadyH.nil
        go_simp
        go_at_call 17
        refine (show Calls Try.prog 17 #[.int .i64 (x : Int)] _ fun e w' => e = .returned (.int .i64 s1) ∧ _ = w' from Hs1.out ▸ scale_any (x : Int) _ (by omega)).mono ?_
        rintro e wq ⟨rfl, rfl⟩
        go_wp2_with fail
        clear hHeld
        refine hK.out _ _ (Ch6) (fun hHeld => ?_)
        clear hK K
        try simp only [List.setIfInBounds_toArray, List.set_cons_zero, List.set_cons_succ]
        refine wpAnyH_listed #[true, true, true, true, true, true, true, true, true, true, true, true, true, true, true, true, true, true, true, true, true, true, true, true, true, true, true, true, true, true, true, true, true, true, true, true, true, true, true, false, false, false, false, false, false, false, false, false, false, false] (by kernel_rfl) ?_
        refine wpAnyH_ready (rs := [39]) (by kernel_rfl) (by simp) ?_
        refine AllReadyH.cons (o := ⟨some 90, Op.call { callee := Callee.value (Operand.func 17), args := #[Operand.tmp 89], argTypes := #[3] }, 3, _, _, some (35, true)⟩) rfl (fun K hK => ?_) AllReadyH.nil
        go_simp
        go_at_call 17
        refine (show Calls Try.prog 17 #[.int .i64 (y : Int)] _ fun e w' => e = .returned (.int .i64 s2) ∧ _ = w' from Hs2.out ▸ scale_any (y : Int) _ (by omega)).mono ?_
        rintro e wq ⟨rfl, rfl⟩
        go_wp2_with fail
        clear hHeld
        refine hK.out _ _ (Ch6) (fun hHeld => ?_)
        clear hK K
        try simp only [List.setIfInBounds_toArray, List.set_cons_zero, List.set_cons_succ]
        refine wpAnyH_listed #[true, true, true, true, true, true, true, true, true, true, true, true, true, true, true, true, true, true, true, true, true, true, true, true, true, true, true, true, true, true, true, true, true, true, true, true, true, true, true, true, false, false, false, false, false, false, false, false, false, false] (by kernel_rfl) ?_
        refine wpAnyT_begin [40] (by kernel_rfl) (by kernel_rfl) ?_
        refine wpAnyT_take (oi := ⟨some 91, Op.binOp BinOp.leq 3 (Operand.tmp 88) (Operand.tmp 90) 3, 4, _, _, some (35, true)⟩) (v := .bool true) rfl (fun _ _ _ h => h) (by rfl) (by assumption) (fun wS hSw => ?_) ?_
        · (try dsimp only at hSw); have q0 := Has.fact hSw (.head _) (i := 0) rfl; have q1 := Has.fact hSw (.head _) (i := 1) rfl; simp only at q0 q1; go_simp <;> omega
        simp only [Act.put, List.setIfInBounds_toArray, List.set_cons_zero, List.set_cons_succ]
        refine wpAnyT_end ?_
        refine wpAnyH_listed #[true, true, true, true, true, true, true, true, true, true, true, true, true, true, true, true, true, true, true, true, true, true, true, true, true, true, true, true, true, true, true, true, true, true, true, true, true, true, true, true, true, false, false, false, false, false, false, false, false, false] (by kernel_rfl) ?_
        refine wpAnyT_begin [41] (by kernel_rfl) (by kernel_rfl) ?_
        refine wpAnyT_take (oi := ⟨some 92, Op.pick (Operand.tmp 86) (Operand.tmp 91) (Operand.const (Value.bool false)), 4, _, _, none⟩) (v := .bool true) rfl (fun _ _ _ h => h) (by rfl) (by assumption) (fun wS hSw => ?_) ?_
        · (try dsimp only at hSw); have q0 := Has.fact hSw (.head _) (i := 0) rfl; have q1 := Has.fact hSw (.head _) (i := 1) rfl; simp only at q0 q1; go_simp <;> omega
        simp only [Act.put, List.setIfInBounds_toArray, List.set_cons_zero, List.set_cons_succ]
        refine wpAnyT_end ?_
        refine wpAnyH_listed #[true, true, true, true, true, true, true, true, true, true, true, true, true, true, true, true, true, true, true, true, true, true, true, true, true, true, true, true, true, true, true, true, true, true, true, true, true, true, true, true, true, true, false, false, false, false, false, false, false, false] (by kernel_rfl) ?_
        refine wpAnyT_begin [42] (by kernel_rfl) (by kernel_rfl) ?_
        refine wpAnyT_take (oi := ⟨some 93, Op.move (Operand.tmp 92), 4, _, _, none⟩) (v := .bool true) rfl (fun _ _ _ h => h) (by rfl) (by assumption) (fun wS hSw => ?_) ?_
        · (try dsimp only at hSw); have q0 := Has.fact hSw (.head _) (i := 0) rfl; have q1 := Has.fact hSw (.head _) (i := 1) rfl; simp only at q0 q1; go_simp <;> omega
        simp only [Act.put, List.setIfInBounds_toArray, List.set_cons_zero, List.set_cons_succ]
        refine wpAnyT_end ?_
        refine wpAnyH_listed #[true, true, true, true, true, true, true, true, true, true, true, true, true, true, true, true, true, true, true, true, true, true, true, true, true, true, true, true, true, true, true, true, true, true, true, true, true, true, true, true, true, true, true, false, false, false, false, false, false, false] (by kernel_rfl) ?_
        refine wpAnyT_begin [43, 45] (by kernel_rfl) (by kernel_rfl) ?_
        refine wpAnyT_take (oi := ⟨some 94, Op.move (Operand.tmp 9), 3, _, _, some (42, true)⟩) (v := .int .i64 (x : Int)) rfl (fun _ _ _ h => h) (by rfl) (by assumption) (fun wS hSw => ?_) ?_
        · (try dsimp only at hSw); have q0 := Has.fact hSw (.head _) (i := 0) rfl; have q1 := Has.fact hSw (.head _) (i := 1) rfl; simp only at q0 q1; go_simp <;> omega
        simp only [Act.put, List.setIfInBounds_toArray, List.set_cons_zero, List.set_cons_succ]
        refine wpAnyT_take (oi := ⟨some 96, Op.move (Operand.tmp 10), 3, _, _, some (42, true)⟩) (v := .int .i64 (y : Int)) rfl (fun _ _ _ h => h) (by rfl) (by assumption) (fun wS hSw => ?_) ?_
        · (try dsimp only at hSw); have q0 := Has.fact hSw (.head _) (i := 0) rfl; have q1 := Has.fact hSw (.head _) (i := 1) rfl; simp only at q0 q1; go_simp <;> omega
        simp only [Act.put, List.setIfInBounds_toArray, List.set_cons_zero, List.set_cons_succ]
        refine wpAnyT_end ?_
        refine wpAnyH_listed #[true, true, true, true, true, true, true, true, true, true, true, true, true, true, true, true, true, true, true, true, true, true, true, true, true, true, true, true, true, true, true, true, true, true, true, true, true, true, true, true, true, true, true, true, false, true, false, false, false, false] (by kernel_rfl) ?_
        refine wpAnyH_ready (rs := [44]) (by kernel_rfl) (by simp) ?_
        refine AllReadyH.cons (o := ⟨some 95, Op.call { callee := Callee.value (Operand.func 19), args := #[Operand.tmp 94], argTypes := #[3] }, 3, _, _, some (42, true)⟩) rfl (fun K hK => ?_) AllReadyH.nil
        go_simp
        go_at_call 19
        refine (show Calls Try.prog 19 #[.int .i64 (x : Int)] _ fun e w' => e = .returned (.int .i64 t1) ∧ _ = w' from Ht1.out ▸ band_any (x : Int) _).mono ?_
        rintro e wq ⟨rfl, rfl⟩
        go_wp2_with fail
        clear hHeld
        refine hK.out _ _ (Ch6) (fun hHeld => ?_)
        clear hK K
        try simp only [List.setIfInBounds_toArray, List.set_cons_zero, List.set_cons_succ]
        refine wpAnyH_listed #[true, true, true, true, true, true, true, true, true, true, true, true, true, true, true, true, true, true, true, true, true, true, true, true, true, true, true, true, true, true, true, true, true, true, true, true, true, true, true, true, true, true, true, true, true, true, false, false, false, false] (by kernel_rfl) ?_
        refine wpAnyH_ready (rs := [46]) (by kernel_rfl) (by simp) ?_
        refine AllReadyH.cons (o := ⟨some 97, Op.call { callee := Callee.value (Operand.func 19), args := #[Operand.tmp 96], argTypes := #[3] }, 3, _, _, some (42, true)⟩) rfl (fun K hK => ?_) AllReadyH.nil
        go_simp
        go_at_call 19
        refine (show Calls Try.prog 19 #[.int .i64 (y : Int)] _ fun e w' => e = .returned (.int .i64 t2) ∧ _ = w' from Ht2.out ▸ band_any (y : Int) _).mono ?_
        rintro e wq ⟨rfl, rfl⟩
        go_wp2_with fail
        clear hHeld
        refine hK.out _ _ (Ch6) (fun hHeld => ?_)
        clear hK K
        try simp only [List.setIfInBounds_toArray, List.set_cons_zero, List.set_cons_succ]
        refine wpAnyH_listed #[true, true, true, true, true, true, true, true, true, true, true, true, true, true, true, true, true, true, true, true, true, true, true, true, true, true, true, true, true, true, true, true, true, true, true, true, true, true, true, true, true, true, true, true, true, true, true, false, false, false] (by kernel_rfl) ?_
        refine wpAnyT_begin [47] (by kernel_rfl) (by kernel_rfl) ?_
        refine wpAnyT_take (oi := ⟨some 98, Op.binOp BinOp.leq 3 (Operand.tmp 95) (Operand.tmp 97) 3, 4, _, _, some (42, true)⟩) (v := .bool true) rfl (fun _ _ _ h => h) (by rfl) (by assumption) (fun wS hSw => ?_) ?_
        · (try dsimp only at hSw); have q0 := Has.fact hSw (.head _) (i := 0) rfl; have q1 := Has.fact hSw (.head _) (i := 1) rfl; simp only at q0 q1; go_simp <;> omega
        simp only [Act.put, List.setIfInBounds_toArray, List.set_cons_zero, List.set_cons_succ]
        refine wpAnyT_end ?_
        refine wpAnyH_listed #[true, true, true, true, true, true, true, true, true, true, true, true, true, true, true, true, true, true, true, true, true, true, true, true, true, true, true, true, true, true, true, true, true, true, true, true, true, true, true, true, true, true, true, true, true, true, true, true, false, false] (by kernel_rfl) ?_
        refine wpAnyT_begin [48] (by kernel_rfl) (by kernel_rfl) ?_
        refine wpAnyT_take (oi := ⟨some 99, Op.pick (Operand.tmp 93) (Operand.tmp 98) (Operand.const (Value.bool false)), 4, _, _, none⟩) (v := .bool true) rfl (fun _ _ _ h => h) (by rfl) (by assumption) (fun wS hSw => ?_) ?_
        · (try dsimp only at hSw); have q0 := Has.fact hSw (.head _) (i := 0) rfl; have q1 := Has.fact hSw (.head _) (i := 1) rfl; simp only at q0 q1; go_simp <;> omega
        simp only [Act.put, List.setIfInBounds_toArray, List.set_cons_zero, List.set_cons_succ]
        refine wpAnyT_end ?_
        refine wpAnyH_listed #[true, true, true, true, true, true, true, true, true, true, true, true, true, true, true, true, true, true, true, true, true, true, true, true, true, true, true, true, true, true, true, true, true, true, true, true, true, true, true, true, true, true, true, true, true, true, true, true, true, false] (by kernel_rfl) ?_
        refine wpAnyT_begin [49] (by kernel_rfl) (by kernel_rfl) ?_
        refine wpAnyT_take (oi := ⟨some 6, Op.assign (Operand.tmp 99), 4, _, _, none⟩) (v := .bool true) rfl (fun _ _ _ h => h) (by rfl) (by assumption) (fun wS hSw => ?_) ?_
        · (try dsimp only at hSw); have q0 := Has.fact hSw (.head _) (i := 0) rfl; have q1 := Has.fact hSw (.head _) (i := 1) rfl; simp only at q0 q1; go_simp <;> omega
        simp only [Act.put, List.setIfInBounds_toArray, List.set_cons_zero, List.set_cons_succ]
        refine wpAnyT_end ?_
        refine wpAnyH_listed #[true, true, true, true, true, true, true, true, true, true, true, true, true, true, true, true, true, true, true, true, true, true, true, true, true, true, true, true, true, true, true, true, true, true, true, true, true, true, true, true, true, true, true, true, true, true, true, true, true, true] (by kernel_rfl) ?_
        refine wpAnyH_done (by kernel_rfl) ?_ _
        clear hHeld
        go_wp2_with fail
        go_ret
        exact ⟨rfl, Below.trans HG.out (Ch6.low.mono HG.out.size)⟩
end Go.Proofs.Ytfcoblapbcdaiaa
