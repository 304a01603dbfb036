/- Meet of the reference, where all ends lie on one line. -/
import Derived.Test.YtmldgjhecoeldaaMeetD
import Derived.Test.YtmldgjhecoeldaaRSide
import Derived.IntWalk
namespace Go.Proofs.Ytmldgjhecoeldaa
open Go.RowKit Go.Lib

theorem Has.fourth {w0 w : World} {bs : List (Nat × List Value)} {p q r s : Nat × List Value} (h : Has w0 (p :: q :: r :: s :: bs) w) : Has w0 (s :: p :: q :: r :: bs) w :=
  h.perm ((List.Perm.cons _ ((List.Perm.cons _ (.swap _ _ _)).trans (.swap _ _ _))).trans (.swap _ _ _))

set_option maxHeartbeats 2000000 in
theorem ordered_any (a0 a1 b0 b1 : Int) (w : World) :
    Calls Try.prog 85 #[.agg #[.int .i64 a0, .int .i64 a1], .agg #[.int .i64 b0, .int .i64 b1]] w fun e w' => e = .returned (.tuple #[.agg #[.int .i64 (lexmin a0 a1 b0 b1).1, .int .i64 (lexmin a0 a1 b0 b1).2], .agg #[.int .i64 (lexmax a0 a1 b0 b1).1, .int .i64 (lexmax a0 a1 b0 b1).2]]) ∧ Below w.heap.size w w' := by
  have C0 := has4 (w := w) [.int .i64 a0, .int .i64 a1] [.int .i64 b0, .int .i64 b1] [.int .i64 0, .int .i64 0] [.int .i64 0, .int .i64 0] 24 24 24 24
  cases h : lexlt b0 b1 a0 a1
  · obtain ⟨e1, e2⟩ := ord_f h
    rw [e1, e2]
    have H := Lib.hid h
    clear h e1 e2
    go_enter Try.func85, Try.ntmps85
    go_wp2_with fail
    change Has w _ ((((w.alloc (.cells #[.int .i64 a0, .int .i64 a1] 24)).alloc (.cells #[.int .i64 b0, .int .i64 b1] 24)).alloc (.cells #[.int .i64 0, .int .i64 0] 24)).alloc (.cells #[.int .i64 0, .int .i64 0] 24)) at C0
    generalize (((w.alloc (.cells #[.int .i64 a0, .int .i64 a1] 24)).alloc (.cells #[.int .i64 b0, .int .i64 b1] 24)).alloc (.cells #[.int .i64 0, .int .i64 0] 24)).alloc (.cells #[.int .i64 0, .int .i64 0] 24) = w0 at *
    obtain ⟨⟨k0, k1, k2, k3, k4, k5, k6, k7⟩, -⟩ := C0.four
    go_wp2_with fail
    refine (Has.call C0 (less_is _ _ _ _ _ H.out _)).mono ?_
    rintro e w1 ⟨rfl, C1⟩
    clear k0 k1 k2 k3 k4 k5 k6 k7
    obtain ⟨⟨k0, k1, k2, k3, k4, k5, k6, k7⟩, -⟩ := C1.four
    obtain ⟨f0, f1⟩ := C1.third.ptf
    obtain ⟨f2, f3⟩ := C1.fourth.ptf
    go_wp2_with fail
    go_region
    have C3 := ((C1.third.set2 (.int .i64 a0) (.int .i64 a1)).fourth.set2 (.int .i64 b0) (.int .i64 b1)).drew
    generalize (((World.setCell w1 ⟨w.heap.size + 2, 0, none⟩ (.int .i64 a0)).setCell ⟨w.heap.size + 2, 1, none⟩ (.int .i64 a1)).setCell ⟨w.heap.size + 3, 0, none⟩ (.int .i64 b0)).setCell ⟨w.heap.size + 3, 1, none⟩ (.int .i64 b1) = w3 at *
    obtain ⟨d0, d1⟩ := C3.pt
    obtain ⟨d2, d3⟩ := C3.tail.pt
    go_wp2_with fail
    exact bodyPost_ret (v := .tuple #[.agg #[.int .i64 a0, .int .i64 a1], .agg #[.int .i64 b0, .int .i64 b1]]) (by simp [results, Try.results85, go_sem, d0, d1, d2, d3]) rfl ⟨rfl, C3.low⟩
  · obtain ⟨e1, e2⟩ := ord_t h
    rw [e1, e2]
    have H := Lib.hid h
    clear h e1 e2
    go_enter Try.func85, Try.ntmps85
    go_wp2_with fail
    change Has w _ ((((w.alloc (.cells #[.int .i64 a0, .int .i64 a1] 24)).alloc (.cells #[.int .i64 b0, .int .i64 b1] 24)).alloc (.cells #[.int .i64 0, .int .i64 0] 24)).alloc (.cells #[.int .i64 0, .int .i64 0] 24)) at C0
    generalize (((w.alloc (.cells #[.int .i64 a0, .int .i64 a1] 24)).alloc (.cells #[.int .i64 b0, .int .i64 b1] 24)).alloc (.cells #[.int .i64 0, .int .i64 0] 24)).alloc (.cells #[.int .i64 0, .int .i64 0] 24) = w0 at *
    obtain ⟨⟨k0, k1, k2, k3, k4, k5, k6, k7⟩, -⟩ := C0.four
    go_wp2_with fail
    refine (Has.call C0 (less_is _ _ _ _ _ H.out _)).mono ?_
    rintro e w1 ⟨rfl, C1⟩
    clear k0 k1 k2 k3 k4 k5 k6 k7
    obtain ⟨⟨k0, k1, k2, k3, k4, k5, k6, k7⟩, -⟩ := C1.four
    obtain ⟨f0, f1⟩ := C1.third.ptf
    obtain ⟨f2, f3⟩ := C1.fourth.ptf
    go_wp2_with fail
    go_region
    have C3 := ((C1.third.set2 (.int .i64 b0) (.int .i64 b1)).fourth.set2 (.int .i64 a0) (.int .i64 a1)).drew
    generalize (((World.setCell w1 ⟨w.heap.size + 2, 0, none⟩ (.int .i64 b0)).setCell ⟨w.heap.size + 2, 1, none⟩ (.int .i64 b1)).setCell ⟨w.heap.size + 3, 0, none⟩ (.int .i64 a0)).setCell ⟨w.heap.size + 3, 1, none⟩ (.int .i64 a1) = w3 at *
    obtain ⟨d0, d1⟩ := C3.pt
    obtain ⟨d2, d3⟩ := C3.tail.pt
    go_wp2_with fail
    exact bodyPost_ret (v := .tuple #[.agg #[.int .i64 b0, .int .i64 b1], .agg #[.int .i64 a0, .int .i64 a1]]) (by simp [results, Try.results85, go_sem, d0, d1, d2, d3]) rfl ⟨rfl, C3.low⟩

set_option maxRecDepth 100000 in
set_option maxHeartbeats 8000000 in
theorem rmeet_flat (a0 a1 b0 b1 c0 c1 d0 d1 : Int) (w : World) (h0 : inl 1152921504606846976 a0 a1 = true) (h1 : inl 1152921504606846976 b0 b1 = true) (h2 : inl 1152921504606846976 c0 c1 = true) (h3 : inl 1152921504606846976 d0 d1 = true) (eA : sideOf c0 c1 d0 d1 a0 a1 = 0) (eB : sideOf c0 c1 d0 d1 b0 b1 = 0) (eC : sideOf a0 a1 b0 b1 c0 c1 = 0) (eD : sideOf a0 a1 b0 b1 d0 d1 = 0) :
    Calls Try.prog 57 #[.agg #[.int .i64 a0, .int .i64 a1], .agg #[.int .i64 b0, .int .i64 b1], .agg #[.int .i64 c0, .int .i64 c1], .agg #[.int .i64 d0, .int .i64 d1]] w fun e w' => e = .returned (.int .i64 (ovl a0 a1 b0 b1 c0 c1 d0 d1)) ∧ Below w.heap.size w w' := by
  obtain ⟨m, hm⟩ : ∃ m, lexmin a0 a1 b0 b1 = m := ⟨_, rfl⟩
  obtain ⟨M, hM⟩ : ∃ M, lexmax a0 a1 b0 b1 = M := ⟨_, rfl⟩
  obtain ⟨n, hn⟩ : ∃ n, lexmin c0 c1 d0 d1 = n := ⟨_, rfl⟩
  obtain ⟨N, hN⟩ : ∃ N, lexmax c0 c1 d0 d1 = N := ⟨_, rfl⟩
  obtain ⟨L, hL⟩ : ∃ L, lexmax m.1 m.2 n.1 n.2 = L := ⟨_, rfl⟩
  obtain ⟨H, hH⟩ : ∃ H, lexmin N.1 N.2 M.1 M.2 = H := ⟨_, rfl⟩
  have hV : ovl a0 a1 b0 b1 c0 c1 d0 d1 = ovl2 L H := by unfold ovl lowP highP; rw [hm, hM, hn, hN, hL, lexmin_comm, hH]
  have O1 := ordered_any a0 a1 b0 b1
  have O2 := ordered_any c0 c1 d0 d1
  rw [hm, hM] at O1
  rw [hn, hN] at O2
  obtain ⟨m0, m1⟩ := m
  obtain ⟨M0, M1⟩ := M
  obtain ⟨n0, n1⟩ := n
  obtain ⟨N0, N1⟩ := N
  obtain ⟨L0, L1⟩ := L
  obtain ⟨H0, H1⟩ := H
  simp only at O1 O2 hL hH
  have HL := Lib.hid hL
  have HH := Lib.hid hH
  have HV := Lib.hid hV
  have HO1 := Lib.hid O1
  have HO2 := Lib.hid O2
  have EA := Lib.hid eA
  have EB := Lib.hid eB
  have EC := Lib.hid eC
  have ED := Lib.hid eD
  clear hm hM hn hN hL hH hV O1 O2 eA eB eC eD
  have G0 := Lib.hid h0
  have G1 := Lib.hid h1
  have G2 := Lib.hid h2
  have G3 := Lib.hid h3
  clear h0 h1 h2 h3
  have C0 := has4 (w := w) [.int .i64 a0, .int .i64 a1] [.int .i64 b0, .int .i64 b1] [.int .i64 c0, .int .i64 c1] [.int .i64 d0, .int .i64 d1] 24 24 24 24
  go_enter Try.func57, Try.ntmps57
  go_wp2_with fail
  change Has w _ ((((w.alloc (.cells #[.int .i64 a0, .int .i64 a1] 24)).alloc (.cells #[.int .i64 b0, .int .i64 b1] 24)).alloc (.cells #[.int .i64 c0, .int .i64 c1] 24)).alloc (.cells #[.int .i64 d0, .int .i64 d1] 24)) at C0
  generalize (((w.alloc (.cells #[.int .i64 a0, .int .i64 a1] 24)).alloc (.cells #[.int .i64 b0, .int .i64 b1] 24)).alloc (.cells #[.int .i64 c0, .int .i64 c1] 24)).alloc (.cells #[.int .i64 d0, .int .i64 d1] 24) = w0 at *
  obtain ⟨⟨k0, k1, k2, k3, k4, k5, k6, k7⟩, -⟩ := C0.four
  go_wp2_with fail
  refine (Has.call C0 (rbounded_is a0 a1 _ G0.out _)).mono ?_
  rintro e w1 ⟨rfl, C1⟩
  clear k0 k1 k2 k3 k4 k5 k6 k7
  obtain ⟨⟨k0, k1, k2, k3, k4, k5, k6, k7⟩, -⟩ := C1.four
  go_wp2_with fail
  refine (Has.call C1 (rbounded_is b0 b1 _ G1.out _)).mono ?_
  rintro e w2 ⟨rfl, C2⟩
  clear k0 k1 k2 k3 k4 k5 k6 k7
  obtain ⟨⟨k0, k1, k2, k3, k4, k5, k6, k7⟩, -⟩ := C2.four
  go_wp2_with fail
  refine (Has.call C2 (rbounded_is c0 c1 _ G2.out _)).mono ?_
  rintro e w3 ⟨rfl, C3⟩
  clear k0 k1 k2 k3 k4 k5 k6 k7
  obtain ⟨⟨k0, k1, k2, k3, k4, k5, k6, k7⟩, -⟩ := C3.four
  go_wp2_with fail
  refine (Has.call C3 (rbounded_is d0 d1 _ G3.out _)).mono ?_
  rintro e w4 ⟨rfl, C4⟩
  clear k0 k1 k2 k3 k4 k5 k6 k7
  obtain ⟨⟨k0, k1, k2, k3, k4, k5, k6, k7⟩, -⟩ := C4.four
  go_wp2_with fail
  refine (Has.call C4 (rside_is a0 a1 b0 b1 c0 c1 _ EC.out _)).mono ?_
  rintro e w5 ⟨rfl, C5⟩
  clear k0 k1 k2 k3 k4 k5 k6 k7
  obtain ⟨⟨k0, k1, k2, k3, k4, k5, k6, k7⟩, -⟩ := C5.four
  go_wp2_with fail
  refine (Has.call C5 (rside_is a0 a1 b0 b1 d0 d1 _ ED.out _)).mono ?_
  rintro e w6 ⟨rfl, C6⟩
  clear k0 k1 k2 k3 k4 k5 k6 k7
  obtain ⟨⟨k0, k1, k2, k3, k4, k5, k6, k7⟩, -⟩ := C6.four
  go_wp2_with fail
  refine (Has.call C6 (rside_is c0 c1 d0 d1 a0 a1 _ EA.out _)).mono ?_
  rintro e w7 ⟨rfl, C7⟩
  clear k0 k1 k2 k3 k4 k5 k6 k7
  obtain ⟨⟨k0, k1, k2, k3, k4, k5, k6, k7⟩, -⟩ := C7.four
  go_wp2_with fail
  refine (Has.call C7 (rside_is c0 c1 d0 d1 b0 b1 _ EB.out _)).mono ?_
  rintro e w8 ⟨rfl, C8⟩
  clear k0 k1 k2 k3 k4 k5 k6 k7
  obtain ⟨⟨k0, k1, k2, k3, k4, k5, k6, k7⟩, -⟩ := C8.four
  go_wp2_with fail
  refine (Has.call C8 (HO1.out _)).mono ?_
  rintro e w9 ⟨rfl, C9⟩
  clear k0 k1 k2 k3 k4 k5 k6 k7
  obtain ⟨⟨k0, k1, k2, k3, k4, k5, k6, k7⟩, -⟩ := C9.four
  obtain ⟨f0, f1⟩ := C9.ptf
  obtain ⟨f2, f3⟩ := C9.swap.ptf
  go_upto_region 11 with fail
  have C10 : Has w [(w.heap.size, [.int .i64 m0, .int .i64 m1]), (w.heap.size + 1, [.int .i64 M0, .int .i64 M1]), (w.heap.size + 2, [.int .i64 c0, .int .i64 c1]), (w.heap.size + 3, [.int .i64 d0, .int .i64 d1])] _ := ((C9.set2 (.int .i64 m0) (.int .i64 m1)).swap.set2 (.int .i64 M0) (.int .i64 M1)).swap
  generalize (((World.setCell w9 ⟨w.heap.size, 0, none⟩ (.int .i64 m0)).setCell ⟨w.heap.size, 1, none⟩ (.int .i64 m1)).setCell ⟨w.heap.size + 1, 0, none⟩ (.int .i64 M0)).setCell ⟨w.heap.size + 1, 1, none⟩ (.int .i64 M1) = w10 at *
  clear k0 k1 k2 k3 k4 k5 k6 k7 f0 f1 f2 f3 C9
  obtain ⟨⟨k0, k1, k2, k3, k4, k5, k6, k7⟩, -⟩ := C10.four
  go_wp2_with fail
  refine (Has.call C10 (HO2.out _)).mono ?_
  rintro e w11 ⟨rfl, C11⟩
  clear k0 k1 k2 k3 k4 k5 k6 k7 C10
  obtain ⟨⟨k0, k1, k2, k3, k4, k5, k6, k7⟩, -⟩ := C11.four
  obtain ⟨f0, f1⟩ := C11.third.ptf
  obtain ⟨f2, f3⟩ := C11.fourth.ptf
  go_upto_region 12 with fail
  have C12 : Has w [(w.heap.size + 3, [.int .i64 N0, .int .i64 N1]), (w.heap.size + 2, [.int .i64 n0, .int .i64 n1]), (w.heap.size, [.int .i64 m0, .int .i64 m1]), (w.heap.size + 1, [.int .i64 M0, .int .i64 M1])] _ := (C11.third.set2 (.int .i64 n0) (.int .i64 n1)).fourth.set2 (.int .i64 N0) (.int .i64 N1)
  generalize (((World.setCell w11 ⟨w.heap.size + 2, 0, none⟩ (.int .i64 n0)).setCell ⟨w.heap.size + 2, 1, none⟩ (.int .i64 n1)).setCell ⟨w.heap.size + 3, 0, none⟩ (.int .i64 N0)).setCell ⟨w.heap.size + 3, 1, none⟩ (.int .i64 N1) = w12 at *
  clear k0 k1 k2 k3 k4 k5 k6 k7 f0 f1 f2 f3 C11
  obtain ⟨⟨k0, k1, k2, k3, k4, k5, k6, k7⟩, -⟩ := C12.four
  go_upto_region 13 with fail
  have C13 := C12.push [.int .i64 m0, .int .i64 m1] 24
  change Has w _ (w12.alloc (.cells #[.int .i64 m0, .int .i64 m1] 24)) at C13
  generalize w12.alloc (.cells #[.int .i64 m0, .int .i64 m1] 24) = w13 at *
  generalize w12.heap.size = F at *
  clear k0 k1 k2 k3 k4 k5 k6 k7 C12
  obtain ⟨⟨k0, k1, k2, k3, k4, k5, k6, k7⟩, -⟩ := C13.tail.four
  obtain ⟨k8, k9⟩ := C13.pt
  obtain ⟨r, hr⟩ : ∃ r, lexlt m0 m1 n0 n1 = r := ⟨_, rfl⟩
  have hL1 : r = true → L0 = n0 ∧ L1 = n1 := by
    intro h; rw [h] at hr
    have := HL.out; rw [(lex_lt hr).2] at this
    exact ⟨(congrArg Prod.fst this).symm, (congrArg Prod.snd this).symm⟩
  have hL2 : r = false → L0 = m0 ∧ L1 = m1 := by
    intro h; rw [h] at hr
    have := HL.out; rw [(lex_ge hr).2] at this
    exact ⟨(congrArg Prod.fst this).symm, (congrArg Prod.snd this).symm⟩
  have HR := Lib.hid hr
  have HL1 := Lib.hid hL1
  have HL2 := Lib.hid hL2
  clear hr hL1 hL2
  go_wp2_with fail
  refine (Has.call C13 (less_is _ _ _ _ _ HR.out _)).mono ?_
  rintro e w14 ⟨rfl, C14⟩
  clear k0 k1 k2 k3 k4 k5 k6 k7 k8 k9 C13
  obtain ⟨⟨k0, k1, k2, k3, k4, k5, k6, k7⟩, -⟩ := C14.tail.four
  obtain ⟨k8, k9⟩ := C14.pt
  obtain ⟨f0, f1⟩ := C14.ptf
  go_upto_if 117 with fail
  go_cut [118] (fun _ wx => Has w [(F, [.int .i64 L0, .int .i64 L1]), (w.heap.size + 3, [.int .i64 N0, .int .i64 N1]), (w.heap.size + 2, [.int .i64 n0, .int .i64 n1]), (w.heap.size, [.int .i64 m0, .int .i64 m1]), (w.heap.size + 1, [.int .i64 M0, .int .i64 M1])] wx)
  case first =>
    cases r
    · obtain ⟨rfl, rfl⟩ := HL2.out rfl
      go_wp2_with fail
      go_meet
      exact C14
    · obtain ⟨rfl, rfl⟩ := HL1.out rfl
      go_wp2_with fail
      go_meet
      exact C14.set2 _ _
  case rest =>
    have C15 := hcut
    clear hcut C14 k0 k1 k2 k3 k4 k5 k6 k7 k8 k9 f0 f1
    obtain ⟨⟨k0, k1, k2, k3, k4, k5, k6, k7⟩, -⟩ := C15.tail.four
    obtain ⟨k8, k9⟩ := C15.pt
    go_upto_region 16 with fail
    have C16 := C15.push [.int .i64 M0, .int .i64 M1] 24
    change Has w _ (wc.alloc (.cells #[.int .i64 M0, .int .i64 M1] 24)) at C16
    generalize wc.alloc (.cells #[.int .i64 M0, .int .i64 M1] 24) = w16 at *
    generalize wc.heap.size = T at *
    clear k0 k1 k2 k3 k4 k5 k6 k7 k8 k9 C15
    obtain ⟨⟨k0, k1, k2, k3, k4, k5, k6, k7⟩, -⟩ := C16.tail.tail.four
    obtain ⟨k8, k9⟩ := C16.tail.pt
    obtain ⟨k10, k11⟩ := C16.pt
    obtain ⟨s, hr⟩ : ∃ s, lexlt N0 N1 M0 M1 = s := ⟨_, rfl⟩
    have hL1 : s = true → H0 = N0 ∧ H1 = N1 := by
      intro h; rw [h] at hr
      have := HH.out; rw [(lex_lt hr).1] at this
      exact ⟨(congrArg Prod.fst this).symm, (congrArg Prod.snd this).symm⟩
    have hL2 : s = false → H0 = M0 ∧ H1 = M1 := by
      intro h; rw [h] at hr
      have := HH.out; rw [(lex_ge hr).1] at this
      exact ⟨(congrArg Prod.fst this).symm, (congrArg Prod.snd this).symm⟩
    have HS := Lib.hid hr
    have HM1 := Lib.hid hL1
    have HM2 := Lib.hid hL2
    clear hr hL1 hL2
    go_wp2_with fail
    refine (Has.call C16 (less_is _ _ _ _ _ HS.out _)).mono ?_
    rintro e w17 ⟨rfl, C17⟩
    clear k0 k1 k2 k3 k4 k5 k6 k7 k8 k9 k10 k11 C16
    obtain ⟨⟨k0, k1, k2, k3, k4, k5, k6, k7⟩, -⟩ := C17.tail.tail.four
    obtain ⟨k8, k9⟩ := C17.tail.pt
    obtain ⟨k10, k11⟩ := C17.pt
    obtain ⟨f0, f1⟩ := C17.ptf
    go_upto_if 122 with fail
    go_cut [123] (fun _ wx => Has w [(T, [.int .i64 H0, .int .i64 H1]), (F, [.int .i64 L0, .int .i64 L1]), (w.heap.size + 3, [.int .i64 N0, .int .i64 N1]), (w.heap.size + 2, [.int .i64 n0, .int .i64 n1]), (w.heap.size, [.int .i64 m0, .int .i64 m1]), (w.heap.size + 1, [.int .i64 M0, .int .i64 M1])] wx)
    case first =>
      cases s
      · obtain ⟨rfl, rfl⟩ := HM2.out rfl
        go_wp2_with fail
        go_meet
        exact C17
      · obtain ⟨rfl, rfl⟩ := HM1.out rfl
        go_wp2_with fail
        go_meet
        exact C17.set2 _ _
    case rest =>
      have C18 := hcut
      clear hcut C17 k0 k1 k2 k3 k4 k5 k6 k7 k8 k9 k10 k11 f0 f1
      obtain ⟨⟨k0, k1, k2, k3⟩, -⟩ := C18.two
      cases hq : lexlt H0 H1 L0 L1
      · by_cases z0 : H0 = L0
        · by_cases z1 : H1 = L1
          · have HW := Lib.hid (show 1 = ovl2 (L0, L1) (H0, H1) by unfold ovl2; rw [if_pos (by rw [z0, z1])])
            have x0 : (H0 == L0) = true := by rw [z0]; simp
            have x1 : (H1 == L1) = true := by rw [z1]; simp
            have HQ := Lib.hid hq
            clear hq z0 z1
            go_wp2_with fail
            refine (Has.call C18 (less_is _ _ _ _ _ HQ.out _)).mono ?_
            rintro e w19 ⟨rfl, C19⟩
            clear k0 k1 k2 k3
            obtain ⟨⟨k0, k1, k2, k3⟩, -⟩ := C19.two
            go_wp2_with fail
            go_ret
            exact ⟨ret_i (HW.out.trans HV.out.symm), C19.low⟩
          · have HW := Lib.hid (show 2 = ovl2 (L0, L1) (H0, H1) by unfold ovl2; rw [if_neg (by intro e; injection e with e1 e2; exact z1 e2.symm), if_pos (by rw [lexlt_no] at hq; rw [lexlt_iff]; omega)])
            have x0 : (H0 == L0) = true := by rw [z0]; simp
            have x1 : (H1 == L1) = false := by rw [beq_eq_false_iff_ne]; exact z1
            have HQ := Lib.hid hq
            clear hq z0 z1
            go_wp2_with fail
            refine (Has.call C18 (less_is _ _ _ _ _ HQ.out _)).mono ?_
            rintro e w19 ⟨rfl, C19⟩
            clear k0 k1 k2 k3
            obtain ⟨⟨k0, k1, k2, k3⟩, -⟩ := C19.two
            go_wp2_with fail
            go_ret
            exact ⟨ret_i (HW.out.trans HV.out.symm), C19.low⟩
        · have HW := Lib.hid (show 2 = ovl2 (L0, L1) (H0, H1) by unfold ovl2; rw [if_neg (by intro e; injection e with e1 e2; exact z0 e1.symm), if_pos (by rw [lexlt_no] at hq; rw [lexlt_iff]; omega)])
          have x0 : (H0 == L0) = false := by rw [beq_eq_false_iff_ne]; exact z0
          have HQ := Lib.hid hq
          clear hq z0
          go_wp2_with fail
          refine (Has.call C18 (less_is _ _ _ _ _ HQ.out _)).mono ?_
          rintro e w19 ⟨rfl, C19⟩
          clear k0 k1 k2 k3
          obtain ⟨⟨k0, k1, k2, k3⟩, -⟩ := C19.two
          go_wp2_with fail
          go_ret
          exact ⟨ret_i (HW.out.trans HV.out.symm), C19.low⟩
      · have HW := Lib.hid (show 0 = ovl2 (L0, L1) (H0, H1) by
          rw [lexlt_iff] at hq
          unfold ovl2; rw [if_neg (by intro e; injection e with e1 e2; omega), if_neg (by rw [lexlt_iff]; simp only; omega)])
        have HQ := Lib.hid hq
        clear hq
        go_wp2_with fail
        refine (Has.call C18 (less_is _ _ _ _ _ HQ.out _)).mono ?_
        rintro e w19 ⟨rfl, C19⟩
        clear k0 k1 k2 k3
        obtain ⟨⟨k0, k1, k2, k3⟩, -⟩ := C19.two
        go_wp2_with fail
        go_ret
        exact ⟨ret_i (HW.out.trans HV.out.symm), C19.low⟩

end Go.Proofs.Ytmldgjhecoeldaa
