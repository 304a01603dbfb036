/- point.overlap: how many points two segments of one line have in common. -/
import Derived.Test.YtmldgjhecoeldaaHas
namespace Go.Proofs.Ytmldgjhecoeldaa
open Go.RowKit Go.Lib

theorem Has.four1 {w0 w : World} {bs : List (Nat × List Value)} {A B C D E : Nat} {xs : List Value} {a b c d e f g k : Value} (h : Has w0 ((E, xs) :: (A, [a, b]) :: (B, [c, d]) :: (C, [e, f]) :: (D, [g, k]) :: bs) w) :
    (w.cell? ⟨A, 0, none⟩ = some a ∧ w.cell? ⟨A, 1, none⟩ = some b ∧ w.cell? ⟨B, 0, none⟩ = some c ∧ w.cell? ⟨B, 1, none⟩ = some d ∧ w.cell? ⟨C, 0, none⟩ = some e ∧ w.cell? ⟨C, 1, none⟩ = some f ∧ w.cell? ⟨D, 0, none⟩ = some g ∧ w.cell? ⟨D, 1, none⟩ = some k) ∧ Has w0 ((E, xs) :: (A, [a, b]) :: (B, [c, d]) :: (C, [e, f]) :: (D, [g, k]) :: bs) w := ⟨h.tail.four.1, h⟩

/-- What overlap answers of two points in order. -/
def ovl2 (l h : Int × Int) : Int := if l = h then 1 else if lexlt l.1 l.2 h.1 h.2 then 2 else 0
def lowP (a0 a1 b0 b1 c0 c1 d0 d1 : Int) : Int × Int := lexmax (lexmin a0 a1 b0 b1).1 (lexmin a0 a1 b0 b1).2 (lexmin c0 c1 d0 d1).1 (lexmin c0 c1 d0 d1).2
def highP (a0 a1 b0 b1 c0 c1 d0 d1 : Int) : Int × Int := lexmin (lexmax a0 a1 b0 b1).1 (lexmax a0 a1 b0 b1).2 (lexmax c0 c1 d0 d1).1 (lexmax c0 c1 d0 d1).2
def ovl (a0 a1 b0 b1 c0 c1 d0 d1 : Int) : Int := ovl2 (lowP a0 a1 b0 b1 c0 c1 d0 d1) (highP a0 a1 b0 b1 c0 c1 d0 d1)

set_option maxHeartbeats 8000000 in
theorem overlap_any (a0 a1 b0 b1 c0 c1 d0 d1 : Int) (w : World) :
    Calls Try.prog 64 #[.agg #[.int .i64 a0, .int .i64 a1], .agg #[.int .i64 b0, .int .i64 b1], .agg #[.int .i64 c0, .int .i64 c1], .agg #[.int .i64 d0, .int .i64 d1]] w fun e w' => e = .returned (.int .i64 (ovl a0 a1 b0 b1 c0 c1 d0 d1)) ∧ Below w.heap.size w w' := by
  obtain ⟨L, hL⟩ : ∃ L, lowP a0 a1 b0 b1 c0 c1 d0 d1 = L := ⟨_, rfl⟩
  obtain ⟨H, hH⟩ : ∃ H, highP a0 a1 b0 b1 c0 c1 d0 d1 = H := ⟨_, rfl⟩
  have hO : ovl a0 a1 b0 b1 c0 c1 d0 d1 = ovl2 L H := by unfold ovl; rw [hL, hH]
  rw [hO]
  unfold lowP at hL
  unfold highP at hH
  have HL := Lib.hid hL
  have HH := Lib.hid hH
  clear hL hH hO
  have C0 := has4 (w := w) [.int .i64 a0, .int .i64 a1] [.int .i64 b0, .int .i64 b1] [.int .i64 c0, .int .i64 c1] [.int .i64 d0, .int .i64 d1] 24 24 24 24
  go_enter Try.func64, Try.ntmps64
  go_wp2_with fail
  change Has w _ ((((w.alloc (.cells #[.int .i64 a0, .int .i64 a1] 24)).alloc (.cells #[.int .i64 b0, .int .i64 b1] 24)).alloc (.cells #[.int .i64 c0, .int .i64 c1] 24)).alloc (.cells #[.int .i64 d0, .int .i64 d1] 24)) at C0
  generalize (((w.alloc (.cells #[.int .i64 a0, .int .i64 a1] 24)).alloc (.cells #[.int .i64 b0, .int .i64 b1] 24)).alloc (.cells #[.int .i64 c0, .int .i64 c1] 24)).alloc (.cells #[.int .i64 d0, .int .i64 d1] 24) = w1 at *
  go_cut [9] (fun v wx => ∃ bb, v = .pointer (some ⟨bb, 0, none⟩) ∧ Has w ((bb, [.int .i64 L.1, .int .i64 L.2]) :: [(w.heap.size, [.int .i64 a0, .int .i64 a1]), (w.heap.size + 1, [.int .i64 b0, .int .i64 b1]), (w.heap.size + 2, [.int .i64 c0, .int .i64 c1]), (w.heap.size + 3, [.int .i64 d0, .int .i64 d1])]) wx)
  case first =>
    obtain ⟨⟨k0, k1, k2, k3, k4, k5, k6, k7⟩, -⟩ := C0.four
    go_region_held3 (fun w' => (w'.cell? ⟨w.heap.size, 0, none⟩ = some (.int .i64 a0) ∧ w'.cell? ⟨w.heap.size, 1, none⟩ = some (.int .i64 a1) ∧ w'.cell? ⟨w.heap.size + 1, 0, none⟩ = some (.int .i64 b0) ∧ w'.cell? ⟨w.heap.size + 1, 1, none⟩ = some (.int .i64 b1) ∧ w'.cell? ⟨w.heap.size + 2, 0, none⟩ = some (.int .i64 c0) ∧ w'.cell? ⟨w.heap.size + 2, 1, none⟩ = some (.int .i64 c1) ∧ w'.cell? ⟨w.heap.size + 3, 0, none⟩ = some (.int .i64 d0) ∧ w'.cell? ⟨w.heap.size + 3, 1, none⟩ = some (.int .i64 d1)) ∧ Has w ([(w.heap.size, [.int .i64 a0, .int .i64 a1]), (w.heap.size + 1, [.int .i64 b0, .int .i64 b1]), (w.heap.size + 2, [.int .i64 c0, .int .i64 c1]), (w.heap.size + 3, [.int .i64 d0, .int .i64 d1])]) w')
      (first | exact C0.drew.four | exact Has.four (by assumption) | exact Has.four (Has.tail (by assumption)) | exact Has.four (Has.alloc (by assumption) _) | exact Has.four (Has.alloc (And.right (by assumption)) _) | exact Has.four (Has.tail (Has.set2 (by assumption) _ _)))
      (first
        | (go_at_call 90; refine (Has.call (by first | exact (C0.push [.int .i64 0, .int .i64 0] 24).drew | exact Has.push (by assumption) [.int .i64 0, .int .i64 0] 24 | exact Has.push (And.right (by assumption)) [.int .i64 0, .int .i64 0] 24 | assumption | exact And.right (by assumption)) (earlier_any _ _ _ _ _)).mono ?_; rintro e w' ⟨rfl, hC⟩; obtain ⟨g00, g01⟩ := Has.pt hC; obtain ⟨g10, g11⟩ := Has.ptf hC)
        | (go_at_call 89; refine (Has.call (by first | exact (C0.push [.int .i64 0, .int .i64 0] 24).drew | exact Has.push (by assumption) [.int .i64 0, .int .i64 0] 24 | exact Has.push (And.right (by assumption)) [.int .i64 0, .int .i64 0] 24 | assumption | exact And.right (by assumption)) (later_any _ _ _ _ _)).mono ?_; rintro e w' ⟨rfl, hC⟩; obtain ⟨g00, g01⟩ := Has.pt hC; obtain ⟨g10, g11⟩ := Has.ptf hC))
    all_goals
      go_wp2_with fail
      go_meet
      exact ⟨_, rfl, by rw [← HL.out]; first | exact Has.set2 (by assumption) _ _ | exact Has.set2 (Has.push (by assumption) [.int .i64 0, .int .i64 0] 24) _ _ | exact Has.push (by assumption) [_, _] 24⟩
  case rest =>
    obtain ⟨b, rfl, C1⟩ := hcut
    clear C0
    go_wp2_with fail
    go_cut [10] (fun v wx => ∃ bb, v = .pointer (some ⟨bb, 0, none⟩) ∧ Has w ((bb, [.int .i64 H.1, .int .i64 H.2]) :: (b, [.int .i64 L.1, .int .i64 L.2]) :: [(w.heap.size, [.int .i64 a0, .int .i64 a1]), (w.heap.size + 1, [.int .i64 b0, .int .i64 b1]), (w.heap.size + 2, [.int .i64 c0, .int .i64 c1]), (w.heap.size + 3, [.int .i64 d0, .int .i64 d1])]) wx)
    case first =>
      obtain ⟨⟨k0, k1, k2, k3, k4, k5, k6, k7⟩, -⟩ := C1.four1
      go_region_held3 (fun w' => (w'.cell? ⟨w.heap.size, 0, none⟩ = some (.int .i64 a0) ∧ w'.cell? ⟨w.heap.size, 1, none⟩ = some (.int .i64 a1) ∧ w'.cell? ⟨w.heap.size + 1, 0, none⟩ = some (.int .i64 b0) ∧ w'.cell? ⟨w.heap.size + 1, 1, none⟩ = some (.int .i64 b1) ∧ w'.cell? ⟨w.heap.size + 2, 0, none⟩ = some (.int .i64 c0) ∧ w'.cell? ⟨w.heap.size + 2, 1, none⟩ = some (.int .i64 c1) ∧ w'.cell? ⟨w.heap.size + 3, 0, none⟩ = some (.int .i64 d0) ∧ w'.cell? ⟨w.heap.size + 3, 1, none⟩ = some (.int .i64 d1)) ∧ Has w ((b, [.int .i64 L.1, .int .i64 L.2]) :: [(w.heap.size, [.int .i64 a0, .int .i64 a1]), (w.heap.size + 1, [.int .i64 b0, .int .i64 b1]), (w.heap.size + 2, [.int .i64 c0, .int .i64 c1]), (w.heap.size + 3, [.int .i64 d0, .int .i64 d1])]) w')
        (first | exact C1.drew.four1 | exact Has.four1 (by assumption) | exact Has.four1 (Has.tail (by assumption)) | exact Has.four1 (Has.alloc (by assumption) _) | exact Has.four1 (Has.alloc (And.right (by assumption)) _) | exact Has.four1 (Has.tail (Has.set2 (by assumption) _ _)))
        (first
          | (go_at_call 90; refine (Has.call (by first | exact (C1.push [.int .i64 0, .int .i64 0] 24).drew | exact Has.push (by assumption) [.int .i64 0, .int .i64 0] 24 | exact Has.push (And.right (by assumption)) [.int .i64 0, .int .i64 0] 24 | assumption | exact And.right (by assumption)) (earlier_any _ _ _ _ _)).mono ?_; rintro e w' ⟨rfl, hC⟩; obtain ⟨g00, g01⟩ := Has.pt hC; obtain ⟨g10, g11⟩ := Has.ptf hC)
          | (go_at_call 89; refine (Has.call (by first | exact (C1.push [.int .i64 0, .int .i64 0] 24).drew | exact Has.push (by assumption) [.int .i64 0, .int .i64 0] 24 | exact Has.push (And.right (by assumption)) [.int .i64 0, .int .i64 0] 24 | assumption | exact And.right (by assumption)) (later_any _ _ _ _ _)).mono ?_; rintro e w' ⟨rfl, hC⟩; obtain ⟨g00, g01⟩ := Has.pt hC; obtain ⟨g10, g11⟩ := Has.ptf hC))
      all_goals
        go_wp2_with fail
        go_meet
        exact ⟨_, rfl, by rw [← HH.out]; first | exact Has.set2 (by assumption) _ _ | exact Has.set2 (Has.push (by assumption) [.int .i64 0, .int .i64 0] 24) _ _ | exact Has.push (by assumption) [_, _] 24⟩
    case rest =>
      obtain ⟨c, rfl, C2⟩ := hcut
      clear C1 HL HH
      obtain ⟨l0, l1⟩ := L
      obtain ⟨h0, h1⟩ := H
      obtain ⟨k0, k1, k2, k3⟩ := C2.two.1
      by_cases e1 : l0 = h0
      · by_cases e2 : l1 = h1
        · subst e1 e2
          have HV := Lib.hid (show 1 = ovl2 (l0, l1) (l0, l1) by unfold ovl2; rw [if_pos rfl])
          go_wp2_with fail
          go_ret
          exact ⟨ret_i HV.out, C2.low⟩
        · subst e1
          have e3 : (l1 == h1) = false := by rw [beq_eq_false_iff_ne]; exact e2
          by_cases e4 : l1 < h1
          · have HV := Lib.hid (show 2 = ovl2 (l0, l1) (l0, h1) by unfold ovl2; rw [if_neg (by intro e; injection e with _ e; exact e2 e), if_pos (lexlt_iff.2 (Or.inr ⟨rfl, e4⟩))])
            have HM := Lib.hid (show lexmin l0 l1 l0 h1 = (l0, l1) from (lex_lt (lexlt_iff.2 (Or.inr ⟨rfl, e4⟩))).1)
            clear e2
            go_wp2_with fail
            go_region_held3 (fun w' => (w'.cell? ⟨c, 0, none⟩ = some (.int .i64 l0) ∧ w'.cell? ⟨c, 1, none⟩ = some (.int .i64 h1) ∧ w'.cell? ⟨b, 0, none⟩ = some (.int .i64 l0) ∧ w'.cell? ⟨b, 1, none⟩ = some (.int .i64 l1)) ∧ Has w ((c, [.int .i64 l0, .int .i64 h1]) :: (b, [.int .i64 l0, .int .i64 l1]) :: [(w.heap.size, [.int .i64 a0, .int .i64 a1]), (w.heap.size + 1, [.int .i64 b0, .int .i64 b1]), (w.heap.size + 2, [.int .i64 c0, .int .i64 c1]), (w.heap.size + 3, [.int .i64 d0, .int .i64 d1])]) w')
              (first | exact C2.drew.two | exact Has.two (by assumption))
              (first | (go_at_call 90; refine (Has.call (by first | assumption | exact And.right (by assumption)) (earlier_is _ _ _ _ _ _ HM.out _)).mono ?_; rintro e w' ⟨rfl, hC⟩))
            go_wp2_with fail
            go_ret
            exact ⟨ret_i HV.out, Has.low (by assumption)⟩
          · have HV := Lib.hid (show 0 = ovl2 (l0, l1) (l0, h1) by unfold ovl2; rw [if_neg (by intro e; injection e with _ e; exact e2 e), if_neg (by rw [lexlt_iff]; omega)])
            have HM := Lib.hid (show lexmin l0 l1 l0 h1 = (l0, h1) from (lex_ge (lexlt_no.2 (by omega))).1)
            have e5 : (h1 == l1) = false := by rw [beq_eq_false_iff_ne]; exact fun e => e2 e.symm
            clear e2
            go_wp2_with fail
            go_region_held3 (fun w' => (w'.cell? ⟨c, 0, none⟩ = some (.int .i64 l0) ∧ w'.cell? ⟨c, 1, none⟩ = some (.int .i64 h1) ∧ w'.cell? ⟨b, 0, none⟩ = some (.int .i64 l0) ∧ w'.cell? ⟨b, 1, none⟩ = some (.int .i64 l1)) ∧ Has w ((c, [.int .i64 l0, .int .i64 h1]) :: (b, [.int .i64 l0, .int .i64 l1]) :: [(w.heap.size, [.int .i64 a0, .int .i64 a1]), (w.heap.size + 1, [.int .i64 b0, .int .i64 b1]), (w.heap.size + 2, [.int .i64 c0, .int .i64 c1]), (w.heap.size + 3, [.int .i64 d0, .int .i64 d1])]) w')
              (first | exact C2.drew.two | exact Has.two (by assumption))
              (first | (go_at_call 90; refine (Has.call (by first | assumption | exact And.right (by assumption)) (earlier_is _ _ _ _ _ _ HM.out _)).mono ?_; rintro e w' ⟨rfl, hC⟩))
            go_wp2_with fail
            go_ret
            exact ⟨ret_i HV.out, Has.low (by assumption)⟩
      · have e3 : (l0 == h0) = false := by rw [beq_eq_false_iff_ne]; exact e1
        by_cases e4 : l0 < h0
        · have HV := Lib.hid (show 2 = ovl2 (l0, l1) (h0, h1) by unfold ovl2; rw [if_neg (by intro e; injection e with e _; exact e1 e), if_pos (lexlt_iff.2 (Or.inl e4))])
          have HM := Lib.hid (show lexmin l0 l1 h0 h1 = (l0, l1) from (lex_lt (lexlt_iff.2 (Or.inl e4))).1)
          clear e1
          go_wp2_with fail
          go_region_held3 (fun w' => (w'.cell? ⟨c, 0, none⟩ = some (.int .i64 h0) ∧ w'.cell? ⟨c, 1, none⟩ = some (.int .i64 h1) ∧ w'.cell? ⟨b, 0, none⟩ = some (.int .i64 l0) ∧ w'.cell? ⟨b, 1, none⟩ = some (.int .i64 l1)) ∧ Has w ((c, [.int .i64 h0, .int .i64 h1]) :: (b, [.int .i64 l0, .int .i64 l1]) :: [(w.heap.size, [.int .i64 a0, .int .i64 a1]), (w.heap.size + 1, [.int .i64 b0, .int .i64 b1]), (w.heap.size + 2, [.int .i64 c0, .int .i64 c1]), (w.heap.size + 3, [.int .i64 d0, .int .i64 d1])]) w')
            (first | exact C2.drew.two | exact Has.two (by assumption))
            (first | (go_at_call 90; refine (Has.call (by first | assumption | exact And.right (by assumption)) (earlier_is _ _ _ _ _ _ HM.out _)).mono ?_; rintro e w' ⟨rfl, hC⟩))
          go_wp2_with fail
          go_ret
          exact ⟨ret_i HV.out, Has.low (by assumption)⟩
        · have HV := Lib.hid (show 0 = ovl2 (l0, l1) (h0, h1) by unfold ovl2; rw [if_neg (by intro e; injection e with e _; exact e1 e), if_neg (by rw [lexlt_iff]; omega)])
          have HM := Lib.hid (show lexmin l0 l1 h0 h1 = (h0, h1) from (lex_ge (lexlt_no.2 (by omega))).1)
          have e5 : (h0 == l0) = false := by rw [beq_eq_false_iff_ne]; exact fun e => e1 e.symm
          clear e1
          go_wp2_with fail
          go_region_held3 (fun w' => (w'.cell? ⟨c, 0, none⟩ = some (.int .i64 h0) ∧ w'.cell? ⟨c, 1, none⟩ = some (.int .i64 h1) ∧ w'.cell? ⟨b, 0, none⟩ = some (.int .i64 l0) ∧ w'.cell? ⟨b, 1, none⟩ = some (.int .i64 l1)) ∧ Has w ((c, [.int .i64 h0, .int .i64 h1]) :: (b, [.int .i64 l0, .int .i64 l1]) :: [(w.heap.size, [.int .i64 a0, .int .i64 a1]), (w.heap.size + 1, [.int .i64 b0, .int .i64 b1]), (w.heap.size + 2, [.int .i64 c0, .int .i64 c1]), (w.heap.size + 3, [.int .i64 d0, .int .i64 d1])]) w')
            (first | exact C2.drew.two | exact Has.two (by assumption))
            (first | (go_at_call 90; refine (Has.call (by first | assumption | exact And.right (by assumption)) (earlier_is _ _ _ _ _ _ HM.out _)).mono ?_; rintro e w' ⟨rfl, hC⟩))
          go_wp2_with fail
          go_ret
          exact ⟨ret_i HV.out, Has.low (by assumption)⟩

end Go.Proofs.Ytmldgjhecoeldaa
