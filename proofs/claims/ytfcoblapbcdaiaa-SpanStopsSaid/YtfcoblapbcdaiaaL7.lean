/- The law on events whose At is no scale. -/
import Derived.Test.YtfcoblapbcdaiaaM2
namespace Go.Proofs.Ytfcoblapbcdaiaa
open Go.RowKit Go.Lib
attribute [local go_sem] Oper.semAt_some
set_option linter.unusedSimpArgs false in
set_option maxRecDepth 100000 in
set_option maxHeartbeats 16000000 in
theorem stops_any (v : Value) (xs : List Int) (q : Nat) (p : Int) (w : World) (hv : Row tI w v xs) (hq : q < 256) (hp : -9223372036854775808 ≤ p ∧ p ≤ 9223372036854775807) :
    Calls Try.prog 7 #[v, .int .u8 (q : Int), .int .i64 p] w fun e w' => e = .returned (.bool true) ∧ Below w.heap.size w w' := by
  have HV := Lib.hid hv
  clear hv
  go_enter Try.func7, Try.ntmps7
  go_wp2_with fail
  refine (sane_any _).mono ?_
  rintro e w1 ⟨rfl, g1⟩
  go_wp2_with fail
  refine (made_any v xs _ (HV.out.later g1)).mono ?_
  rintro e w2 ⟨d, ev, es, rfl, R, HA0, g2⟩
  have g := Below.trans g1 (g2.mono g1.size)
  clear g1 g2
  obtain ⟨a, L, c, rfl, hL, hc1, hc2, R⟩ := R.form
  have HR := Lib.hid R
  have HA := Lib.hid HA0
  have HG := Lib.hid g
  have hL8 : L ≤ 8 := by have := HA0.len; omega
  clear R HA0 g
  have C := has1 (w := w2) [.int .i64 d, .slice a L c] 25
  change Has w2 _ (w2.alloc (.cells #[.int .i64 d, .slice a L c] 25)) at C
  rcases Nat.eq_zero_or_pos L with hz | hz
  · subst hz
    go_wp2_with fail
    go_ret
    exact ⟨rfl, Below.trans HG.out (C.low.mono HG.out.size)⟩
  · have g1 : ((L : Int) == 0) = false := by rw [beq_eq_false_iff_ne]; omega
    have g2 : ¬ (L : Int) = 0 := by omega
    have g3 : ¬ L = 0 := by omega
    rcases (show (0 ≤ p ∧ p ≤ 1024) ∨ (p < 0 ∨ 1024 < p) by omega) with hp2 | hp2
    · go_wp2_with fail
      go_ret
      exact ⟨rfl, Below.trans HG.out (C.low.mono HG.out.size)⟩
    · have hpo : okA p = false := (okA_no p).2 hp2
      go_upto_region 3 with fail
      generalize w2.alloc (.cells #[.int .i64 d, .slice a L c] 25) = w3 at *
      generalize hA2 : w2.heap.size = A at *
      clear hA2
      have k1 := C.fact (.head _) (i := 1) rfl
      simp only at k1
      go_cut [28] (fun v wx => v = .bool false ∧ w3 = wx)
      case first =>
        rcases hp2 with hp2 | hp2
        · have n1 : ¬ 0 ≤ p := by omega
          have n2 : ¬ p ≥ 0 := by omega
          go_wp2_with fail
          go_meet
          exact ⟨rfl, rfl⟩
        · have n1 : ¬ p ≤ 1024 := by omega
          have n2 : 0 ≤ p := by omega
          go_wp2_with fail
          go_meet
          exact ⟨rfl, rfl⟩
      case rest =>
        obtain ⟨rfl, rfl⟩ := hcut
        clear hp2
        have hkq0 : 0 ≤ (q : Int) % (L : Int) := Int.emod_nonneg _ (by omega)
        have hkq1 : (q : Int) % (L : Int) < L := Int.emod_lt_of_pos _ (by omega)
        obtain ⟨k, hkk⟩ : ∃ k : Nat, (q : Int) % (L : Int) = k := ⟨((q : Int) % (L : Int)).toNat, by omega⟩
        rw [hkk] at hkq1
        clear hkq0
        have hkL : k < es.length := by omega
        obtain ⟨x, hx⟩ : ∃ x, es[k]? = some x := ⟨_, List.getElem?_eq_getElem hkL⟩
        have HX := Lib.hid hx
        have hAl : A < w3.heap.size := C.lt0
        have X := C.push [] 30
        have OA := own_empty (T := tE) (b := w3.heap.size) w3 30 (Nat.le_refl _)
        change Has w2 _ (w3.alloc (.cells #[] 30)) at X
        have k2 := X.tail.fact (.head _) (i := 1) rfl
        simp only at k2
        clear hx
        go_wp2_with (at_builtin; refine wpList_append tE_ok rfl _ _ rfl rfl OA rfl (HR.out.later X.low) (by simp only [List.length_nil]; omega) (by rw [size_alloc]; omega) ?_)
        intro u4 w4 O4 G4 _
        have C4 := X.tail.grownN (by intro r hr e; simp only [List.mem_cons, List.not_mem_nil, or_false] at hr; subst hr; injection e with e; simp only at e; omega) (fun r e => by cases e; exact X.ge _ (.head _)) G4
        clear X OA G4 k1 k2
        obtain ⟨g, cap, rfl, u1, u2⟩ := O4.some' (by omega)
        have hg := O4.block.2.1
        have C5 := C4.own O4 (by have := C.ge _ (.head _); simp only at this; omega) (by intro r hr; simp only [List.mem_cons, List.not_mem_nil, or_false] at hr; subst hr; exact hAl)
        rw [hL] at u1 ⊢
        clear C4 O4 C
        have C6 := C5.push [.int .i64 0, .slice (some ⟨g, 0, none⟩) L cap] 25
        change Has w2 _ (w4.alloc (.cells #[.int .i64 0, .slice (some ⟨g, 0, none⟩) L cap] 25)) at C6
        have c1 := C6.tail.fact (.head _) (flat_at tE_ok HX.out (j := 1) rfl)
        have f1 := C6.tail.free (.head _) (flat_at tE_ok HX.out (j := 1) rfl)
        simp only [show tE.k = 5 from rfl] at c1 f1
        have Z := (C6.swap.set (k * 5 + 1) (by rw [flat_length tE_ok, show tE.k = 5 from rfl]; omega) (.int .i64 p)).swap
        rw [flat_setE es k x p HX.out] at Z
        have k0 := Z.fact (.head _) (i := 0) rfl
        have k1 := Z.fact (.head _) (i := 1) rfl
        simp only at k0 k1
        have HC := Lib.hid (stop_check (e := x) HA.out hkL hpo)
        have HD1 := Lib.hid (stop_done (e := x) HA.out hkL hpo (s := 4611686018427387904) (by omega))
        have HD2 := Lib.hid (doA_no (stop_doing (e := x) HA.out hkL hpo (s := 1048576) (by omega)))
        have hL2 : (es.set k (x.put p)).length = L := by rw [List.length_set, hL]
        go_wp2_with fail
        generalize (w4.alloc (.cells #[.int .i64 0, .slice (some ⟨g, 0, none⟩) L cap] 25)).setCell ⟨g, k * 5 + 1, none⟩ (.int .i64 p) = w5 at *
        generalize w4.heap.size = G at *
        have HRE := Lib.hid (fun (W : World) (bs : List (Nat × List Value)) (C : Has w2 ((g, (es.set k (x.put p)).flatMap tE.enc) :: bs) W) => show Row tE W (.slice (some ⟨g, 0, none⟩) L cap) (es.set k (x.put p)) by
          have h := row_cells (T := tE) (xs := es.set k (x.put p)) (c := cap) (C.c _ (.head _)) (by omega) u2
          rw [hL2] at h
          exact h)
        obtain ⟨es2, hes2⟩ : ∃ l, es.set k (x.put p) = l := ⟨_, rfl⟩
        rw [hes2] at HC HD1 HD2 HRE Z
        clear C6 C5 c1 f1 k0 k1 hes2 hL2
        refine (Has.call Z (doing_any 0 _ es2 1048576 _ (by omega) (HRE.out _ _ Z.tail))).mono ?_
        rintro e w6 ⟨rfl, Z1⟩
        rw [HD2.out]
        clear Z
        have Z2 := Z1.push [.int .i64 0, .int .i64 0] 36
        change Has w2 _ (w6.alloc (.cells #[.int .i64 0, .int .i64 0] 36)) at Z2
        have k0 := Z2.tail.fact (.head _) (i := 0) rfl
        have k1 := Z2.tail.fact (.head _) (i := 1) rfl
        simp only at k0 k1
        go_wp2_with fail
        generalize w6.alloc (.cells #[.int .i64 0, .int .i64 0] 36) = w7 at *
        refine (Has.call Z2 (check_any 0 _ es2 _ (HRE.out _ _ Z2.tail.tail))).mono ?_
        rintro e w8 ⟨rfl, Z3⟩
        rw [HC.out]
        clear k0 k1 Z1 Z2
        have k0 := Z3.tail.fact (.head _) (i := 0) rfl
        have k1 := Z3.tail.fact (.head _) (i := 1) rfl
        simp only at k0 k1
        go_wp2_with fail
        refine (Has.call Z3 (done_any 0 _ es2 4611686018427387904 _ (HRE.out _ _ Z3.tail.tail))).mono ?_
        rintro e w9 ⟨rfl, Z4⟩
        rw [HD1.out]
        clear k0 k1 Z3
        go_wp2_with fail
        go_ret
        exact ⟨ret_b (by simp), Below.trans HG.out (Z4.low.mono HG.out.size)⟩
end Go.Proofs.Ytfcoblapbcdaiaa
