/- Lists: whether one contains a point, or one for which something holds. line.commonEnds. -/
import Derived.Test.YtkejilomempogaaRRv
import Derived.Deep.RegionWith
namespace Go.Proofs.Ytkejilomempogaa
open Go.RowKit Go.Lib

theorem take_not {ps : List (Int × Int)} {f : Int × Int → Bool} {k : Nat} {p : Int × Int} (h : ps[k]? = some p) (ha : (ps.take k).any f = false) (hr : f p = false) : (ps.take (k + 1)).any f = false := by
  rw [List.take_add_one, h, List.any_append, ha]
  simp [hr]
theorem any_at {ps : List (Int × Int)} {f : Int × Int → Bool} {k : Nat} {p : Int × Int} (h : ps[k]? = some p) (hr : f p = true) : ps.any f = true := List.any_eq_true.2 ⟨p, List.mem_of_getElem? h, hr⟩
theorem any_end {ps : List (Int × Int)} {f : Int × Int → Bool} {k : Nat} (h : k = ps.length) (ha : (ps.take k).any f = false) : ps.any f = false := by
  subst h; rwa [List.take_length] at ha
def eqP (p q : Int × Int) : Bool := decide (p = q)

set_option linter.unusedSimpArgs false in
set_option maxRecDepth 100000 in
set_option maxHeartbeats 4000000 in
theorem index_any (v : Value) (ps : List (Int × Int)) (p0 p1 : Int) (w : World) (hv : RowP w v ps) :
    Calls Try.prog 96 #[v, .agg #[.int .i64 p0, .int .i64 p1]] w fun e w' => (∃ z : Int, e = .returned (.int .i64 z) ∧ decide (0 ≤ z) = ps.any (eqP (p0, p1))) ∧ Below w.heap.size w w' := by
  have hv0 := hv
  obtain ⟨a, cap, rfl, hc1, hc2, -⟩ := hv0
  obtain ⟨m, hm⟩ : ∃ m, ps.length = m := ⟨_, rfl⟩
  rw [hm] at hv hc1 ⊢
  have HV := Lib.hid hv
  have HM := Lib.hid hm
  clear hv hm
  have C0 := has1 (w := w) [.int .i64 p0, .int .i64 p1] 36
  go_enter Try.func96, Try.ntmps96
  go_wp2_with fail
  change Has w _ (w.alloc (.cells #[.int .i64 p0, .int .i64 p1] 36)) at C0
  generalize w.alloc (.cells #[.int .i64 p0, .int .i64 p1] 36) = w1 at *
  go_loopw [8] (fun i wr => ∃ k : Nat, k ≤ m ∧ i = .int .i64 k ∧ Hid ((ps.take k).any (eqP (p0, p1)) = false) ∧ Has w [(w.heap.size, [.int .i64 p0, .int .i64 p1])] wr) (fun i _ => m - (RowKit.intOf i).toNat)
  case atStart => exact ⟨0, Nat.zero_le _, rfl, Lib.hid rfl, C0⟩
  case round =>
    clear C0
    obtain ⟨k, hk, rfl, HA, hI⟩ := hrel
    by_cases hlt : k < m
    · have hR := HV.out.later hI.low
      obtain ⟨b, o, rfl, -⟩ := hR.spot (by rw [HM.out]; omega)
      obtain ⟨x, y, hp⟩ := some_pt (ps := ps) (k := k) (by rw [HM.out]; exact hlt)
      obtain ⟨c0, c1⟩ := hR.cells hp
      obtain ⟨k0, k1⟩ := hI.pt
      have HP := Lib.hid hp
      clear hp hR
      have bb1 : (k : Int) < m := by omega
      have bb6 : (0 : Int) ≤ k := by omega
      rcases eq3 p0 p1 x y with ⟨e1, e2, e3⟩ | ⟨e1, e2, e3⟩ | ⟨e1, e3⟩
      · have HE := Lib.hid e3
        clear e3
        go_wp2_with fail
        go_region
        go_wp2_with fail
        go_ret
        exact ⟨⟨k, rfl, by rw [any_at HP.out HE.out]; exact decide_eq_true bb6⟩, hI.drew.low⟩
      all_goals
        have HE := Lib.hid e3
        clear e3
        go_wp2_with fail
        go_region
        go_wp2_with fail
        go_roundw
        case rel => exact ⟨k + 1, by omega, by go_num, Lib.hid (take_not HP.out HA.out HE.out), hI.drew⟩
        case measure => simp [RowKit.intOf]; omega
    · obtain rfl : k = m := by omega
      go_wp2_with fail
      go_ret
      exact ⟨⟨-1, rfl, by rw [any_end HM.out.symm HA.out]; rfl⟩, hI.low⟩

theorem contains_any (v : Value) (ps : List (Int × Int)) (p0 p1 : Int) (w : World) (hv : RowP w v ps) :
    Calls Try.prog 82 #[v, .agg #[.int .i64 p0, .int .i64 p1]] w fun e w' => e = .returned (.bool (ps.any (eqP (p0, p1)))) ∧ Below w.heap.size w w' := by
  have HV := Lib.hid hv
  clear hv
  have C0 := has1 (w := w) [.int .i64 p0, .int .i64 p1] 36
  go_enter Try.func82, Try.ntmps82
  go_wp2_with fail
  change Has w _ (w.alloc (.cells #[.int .i64 p0, .int .i64 p1] 36)) at C0
  generalize w.alloc (.cells #[.int .i64 p0, .int .i64 p1] 36) = w1 at *
  obtain ⟨k0, k1⟩ := C0.pt
  go_wp2_with fail
  refine (index_any v ps p0 p1 w1 (HV.out.later C0.low)).mono ?_
  rintro e w2 ⟨⟨z, rfl, hz⟩, g2⟩
  have HZ := Lib.hid hz
  clear hz
  go_wp2_with fail
  go_ret
  exact ⟨ret_b HZ.out, Grows.then C0.low g2⟩
theorem contains_is (v : Value) (ps : List (Int × Int)) (p0 p1 : Int) (w : World) (hv : RowP w v ps) (r : Bool) (h : ps.any (eqP (p0, p1)) = r) :
    Calls Try.prog 82 #[v, .agg #[.int .i64 p0, .int .i64 p1]] w fun e w' => e = .returned (.bool r) ∧ Below w.heap.size w w' := h ▸ contains_any v ps p0 p1 w hv

/-- Whether a point is on both of two segments. -/
def bothP (a0 a1 b0 b1 c0 c1 d0 d1 : Int) (p : Int × Int) : Bool := onOf a0 a1 b0 b1 p.1 p.2 && onOf c0 c1 d0 d1 p.1 p.2
set_option maxRecDepth 100000 in
set_option maxHeartbeats 4000000 in
theorem both_any (a0 a1 b0 b1 c0 c1 d0 d1 p0 p1 : Int) (S T : Nat) (w w0 : World) (bs : List (Nat × List Value)) (hH : Has w0 ((S, [.int .i64 a0, .int .i64 a1, .int .i64 b0, .int .i64 b1]) :: (T, [.int .i64 c0, .int .i64 c1, .int .i64 d0, .int .i64 d1]) :: bs) w) :
    Calls Try.prog 84 #[.agg #[.int .i64 p0, .int .i64 p1], .pointer (some ⟨S, 0, none⟩), .pointer (some ⟨T, 0, none⟩)] w fun e w' => e = .returned (.bool (bothP a0 a1 b0 b1 c0 c1 d0 d1 (p0, p1))) ∧ Below w.heap.size w w' := by
  obtain ⟨r1, h1⟩ : ∃ r, onOf a0 a1 b0 b1 p0 p1 = r := ⟨_, rfl⟩
  obtain ⟨r2, h2⟩ : ∃ r, onOf c0 c1 d0 d1 p0 p1 = r := ⟨_, rfl⟩
  have hR : bothP a0 a1 b0 b1 c0 c1 d0 d1 (p0, p1) = (r1 && r2) := by unfold bothP; rw [h1, h2]
  rw [hR]
  have H1 := Lib.hid h1
  have H2 := Lib.hid h2
  clear h1 h2 hR
  have D0 := hH.push [.int .i64 p0, .int .i64 p1] 36
  have gr : Grows w (w.alloc (.cells #[.int .i64 p0, .int .i64 p1] 36)) := (Below.refl _ w).alloc (Nat.le_refl _) _
  change Has w0 _ (w.alloc (.cells #[.int .i64 p0, .int .i64 p1] 36)) at D0
  obtain ⟨k0, k1⟩ := D0.pt
  obtain ⟨k2, k3, k4, k5, k6, k7, k8, k9⟩ := D0.tail.two4
  cases r1
  · go_enter Try.func84, Try.ntmps84
    go_wp2_with fail
    generalize w.alloc (.cells #[.int .i64 p0, .int .i64 p1] 36) = w1 at *
    refine (on_is a0 a1 b0 b1 p0 p1 _ H1.out _).mono ?_
    rintro e w2 ⟨rfl, g2⟩
    clear k0 k1 k2 k3 k4 k5 k6 k7 k8 k9
    go_wp2_with fail
    go_ret
    exact ⟨rfl, gr.then g2⟩
  · go_enter Try.func84, Try.ntmps84
    go_wp2_with fail
    generalize w.alloc (.cells #[.int .i64 p0, .int .i64 p1] 36) = w1 at *
    refine (on_is a0 a1 b0 b1 p0 p1 _ H1.out _).mono ?_
    rintro e w2 ⟨rfl, g2⟩
    clear k0 k1 k2 k3 k4 k5 k6 k7 k8 k9
    have D1 := D0.later g2
    obtain ⟨k0, k1⟩ := D1.pt
    obtain ⟨k2, k3, k4, k5, k6, k7, k8, k9⟩ := D1.tail.two4
    go_wp2_with fail
    refine (on_is c0 c1 d0 d1 p0 p1 _ H2.out _).mono ?_
    rintro e w3 ⟨rfl, g3⟩
    go_wp2_with fail
    go_ret
    exact ⟨rfl, (gr.then g2).then g3⟩
theorem both_is (a0 a1 b0 b1 c0 c1 d0 d1 p0 p1 : Int) (S T : Nat) (w w0 : World) (bs : List (Nat × List Value)) (hH : Has w0 ((S, [.int .i64 a0, .int .i64 a1, .int .i64 b0, .int .i64 b1]) :: (T, [.int .i64 c0, .int .i64 c1, .int .i64 d0, .int .i64 d1]) :: bs) w) (r : Bool) (h : bothP a0 a1 b0 b1 c0 c1 d0 d1 (p0, p1) = r) :
    Calls Try.prog 84 #[.agg #[.int .i64 p0, .int .i64 p1], .pointer (some ⟨S, 0, none⟩), .pointer (some ⟨T, 0, none⟩)] w fun e w' => e = .returned (.bool r) ∧ Below w.heap.size w w' := h ▸ both_any a0 a1 b0 b1 c0 c1 d0 d1 p0 p1 S T w w0 bs hH

set_option linter.unusedSimpArgs false in
set_option maxRecDepth 100000 in
set_option maxHeartbeats 4000000 in
theorem indexf_any (v : Value) (ps : List (Int × Int)) (a0 a1 b0 b1 c0 c1 d0 d1 : Int) (S T : Nat) (w w0 : World) (hv : RowP w v ps) (hH : Has w0 [(S, [.int .i64 a0, .int .i64 a1, .int .i64 b0, .int .i64 b1]), (T, [.int .i64 c0, .int .i64 c1, .int .i64 d0, .int .i64 d1])] w) :
    Calls Try.prog 97 #[v, .func (.func 84) #[] #[.pointer (some ⟨S, 0, none⟩), .pointer (some ⟨T, 0, none⟩)]] w fun e w' => (∃ z : Int, e = .returned (.int .i64 z) ∧ decide (0 ≤ z) = ps.any (bothP a0 a1 b0 b1 c0 c1 d0 d1)) ∧ Below w.heap.size w w' := by
  have hv0 := hv
  obtain ⟨a, cap, rfl, hc1, hc2, -⟩ := hv0
  obtain ⟨m, hm⟩ : ∃ m, ps.length = m := ⟨_, rfl⟩
  rw [hm] at hv hc1 ⊢
  have HV := Lib.hid hv
  have HM := Lib.hid hm
  have HH := Lib.hid hH
  clear hv hm hH
  go_enter Try.func97, Try.ntmps97
  go_wp2_with fail
  go_loopw [8] (fun i wr => ∃ k : Nat, k ≤ m ∧ i = .int .i64 k ∧ Hid ((ps.take k).any (bothP a0 a1 b0 b1 c0 c1 d0 d1) = false) ∧ Grows w wr) (fun i _ => m - (RowKit.intOf i).toNat)
  case atStart => exact ⟨0, Nat.zero_le _, rfl, Lib.hid rfl, Below.refl _ _⟩
  case round =>
    obtain ⟨k, hk, rfl, HA, hG⟩ := hrel
    by_cases hlt : k < m
    · have hR := HV.out.later hG
      obtain ⟨b, o, rfl, -⟩ := hR.spot (by rw [HM.out]; omega)
      obtain ⟨x, y, hp⟩ := some_pt (ps := ps) (k := k) (by rw [HM.out]; exact hlt)
      obtain ⟨c0', c1'⟩ := hR.cells hp
      have HP := Lib.hid hp
      have HB := HH.out.later hG
      clear hp hR
      have bb1 : (k : Int) < m := by omega
      have bb6 : (0 : Int) ≤ k := by omega
      cases hq : bothP a0 a1 b0 b1 c0 c1 d0 d1 (x, y)
      · have HQ := Lib.hid hq
        clear hq
        go_wp2_with fail
        refine (both_is a0 a1 b0 b1 c0 c1 d0 d1 x y S T _ w0 [] HB _ HQ.out).mono ?_
        rintro e w2 ⟨rfl, g2⟩
        clear c0' c1'
        go_wp2_with fail
        go_roundw
        case rel => exact ⟨k + 1, by omega, by go_num, Lib.hid (take_not HP.out HA.out HQ.out), hG.then g2⟩
        case measure => simp [RowKit.intOf]; omega
      · have HQ := Lib.hid hq
        clear hq
        go_wp2_with fail
        refine (both_is a0 a1 b0 b1 c0 c1 d0 d1 x y S T _ w0 [] HB _ HQ.out).mono ?_
        rintro e w2 ⟨rfl, g2⟩
        clear c0' c1'
        go_wp2_with fail
        go_ret
        exact ⟨⟨k, rfl, by rw [any_at HP.out HQ.out]; exact decide_eq_true bb6⟩, hG.then g2⟩
    · obtain rfl : k = m := by omega
      go_wp2_with fail
      go_ret
      exact ⟨⟨-1, rfl, by rw [any_end HM.out.symm HA.out]; rfl⟩, hG⟩
theorem containsf_any (v : Value) (ps : List (Int × Int)) (a0 a1 b0 b1 c0 c1 d0 d1 : Int) (S T : Nat) (w w0 : World) (hv : RowP w v ps) (hH : Has w0 [(S, [.int .i64 a0, .int .i64 a1, .int .i64 b0, .int .i64 b1]), (T, [.int .i64 c0, .int .i64 c1, .int .i64 d0, .int .i64 d1])] w) :
    Calls Try.prog 83 #[v, .func (.func 84) #[] #[.pointer (some ⟨S, 0, none⟩), .pointer (some ⟨T, 0, none⟩)]] w fun e w' => e = .returned (.bool (ps.any (bothP a0 a1 b0 b1 c0 c1 d0 d1))) ∧ Below w.heap.size w w' := by
  have HV := Lib.hid hv
  have HH := Lib.hid hH
  clear hv hH
  go_enter Try.func83, Try.ntmps83
  go_wp2_with fail
  refine (indexf_any v ps a0 a1 b0 b1 c0 c1 d0 d1 S T w w0 HV.out HH.out).mono ?_
  rintro e w2 ⟨⟨z, rfl, hz⟩, g2⟩
  have HZ := Lib.hid hz
  clear hz
  go_wp2_with fail
  go_ret
  exact ⟨ret_b HZ.out, g2⟩
theorem containsf_is (v : Value) (ps : List (Int × Int)) (a0 a1 b0 b1 c0 c1 d0 d1 : Int) (S T : Nat) (w w0 : World) (hv : RowP w v ps) (hH : Has w0 [(S, [.int .i64 a0, .int .i64 a1, .int .i64 b0, .int .i64 b1]), (T, [.int .i64 c0, .int .i64 c1, .int .i64 d0, .int .i64 d1])] w) (r : Bool) (h : ps.any (bothP a0 a1 b0 b1 c0 c1 d0 d1) = r) :
    Calls Try.prog 83 #[v, .func (.func 84) #[] #[.pointer (some ⟨S, 0, none⟩), .pointer (some ⟨T, 0, none⟩)]] w fun e w' => e = .returned (.bool r) ∧ Below w.heap.size w w' := h ▸ containsf_any v ps a0 a1 b0 b1 c0 c1 d0 d1 S T w w0 hv hH

/-- Whether two segments have a common point other than those of a list. -/
def mbP (a0 a1 b0 b1 c0 c1 d0 d1 : Int) (ps : List (Int × Int)) : Bool := if lmeet a0 a1 b0 b1 c0 c1 d0 d1 = 0 then false else if lmeet a0 a1 b0 b1 c0 c1 d0 d1 = 1 then !ps.any (bothP a0 a1 b0 b1 c0 c1 d0 d1) else true
set_option maxRecDepth 100000 in
set_option maxHeartbeats 4000000 in
theorem beside_any (v : Value) (ps : List (Int × Int)) (a0 a1 b0 b1 c0 c1 d0 d1 : Int) (w : World) (hv : RowP w v ps) :
    Calls Try.prog 54 #[.agg #[.int .i64 a0, .int .i64 a1, .int .i64 b0, .int .i64 b1], .agg #[.int .i64 c0, .int .i64 c1, .int .i64 d0, .int .i64 d1], v] w fun e w' => e = .returned (.bool (mbP a0 a1 b0 b1 c0 c1 d0 d1 ps)) ∧ Below w.heap.size w w' := by
  have HV := Lib.hid hv
  clear hv
  obtain ⟨X, hX⟩ : ∃ X, lmeet a0 a1 b0 b1 c0 c1 d0 d1 = X := ⟨_, rfl⟩
  have HX := Lib.hid hX
  have C0 := has2 (w := w) [.int .i64 a0, .int .i64 a1, .int .i64 b0, .int .i64 b1] [.int .i64 c0, .int .i64 c1, .int .i64 d0, .int .i64 d1] 64 64
  by_cases h0 : X = 0
  · have HR := Lib.hid (show mbP a0 a1 b0 b1 c0 c1 d0 d1 ps = false by unfold mbP; rw [hX, if_pos h0])
    have f0 : (X == 0) = true := by rw [beq_iff_eq]; exact h0
    clear hX h0
    go_enter Try.func54, Try.ntmps54
    go_wp2_with fail
    change Has w _ ((w.alloc (.cells #[.int .i64 a0, .int .i64 a1, .int .i64 b0, .int .i64 b1] 64)).alloc (.cells #[.int .i64 c0, .int .i64 c1, .int .i64 d0, .int .i64 d1] 64)) at C0
    generalize (w.alloc (.cells #[.int .i64 a0, .int .i64 a1, .int .i64 b0, .int .i64 b1] 64)).alloc (.cells #[.int .i64 c0, .int .i64 c1, .int .i64 d0, .int .i64 d1] 64) = w1 at *
    obtain ⟨k2, k3, k4, k5, k6, k7, k8, k9⟩ := C0.two4
    go_wp2_with fail
    refine (Has.call C0 (lmeet_is _ _ _ _ _ _ _ _ _ HX.out _)).mono ?_
    rintro e w2 ⟨rfl, C1⟩
    clear k2 k3 k4 k5 k6 k7 k8 k9
    go_wp2_with fail
    go_ret
    exact ⟨ret_b HR.out.symm, C1.low⟩
  · have f0 : (X == 0) = false := by rw [beq_eq_false_iff_ne]; exact h0
    by_cases h1 : X = 1
    · obtain ⟨r, hr⟩ : ∃ r, ps.any (bothP a0 a1 b0 b1 c0 c1 d0 d1) = r := ⟨_, rfl⟩
      have HR := Lib.hid (show mbP a0 a1 b0 b1 c0 c1 d0 d1 ps = !r by unfold mbP; rw [hX, if_neg h0, if_pos h1, hr])
      have H1 := Lib.hid hr
      have f1 : (X == 1) = true := by rw [beq_iff_eq]; exact h1
      clear hX h0 h1 hr
      go_enter Try.func54, Try.ntmps54
      go_wp2_with fail
      change Has w _ ((w.alloc (.cells #[.int .i64 a0, .int .i64 a1, .int .i64 b0, .int .i64 b1] 64)).alloc (.cells #[.int .i64 c0, .int .i64 c1, .int .i64 d0, .int .i64 d1] 64)) at C0
      generalize (w.alloc (.cells #[.int .i64 a0, .int .i64 a1, .int .i64 b0, .int .i64 b1] 64)).alloc (.cells #[.int .i64 c0, .int .i64 c1, .int .i64 d0, .int .i64 d1] 64) = w1 at *
      obtain ⟨k2, k3, k4, k5, k6, k7, k8, k9⟩ := C0.two4
      go_wp2_with fail
      refine (Has.call C0 (lmeet_is _ _ _ _ _ _ _ _ _ HX.out _)).mono ?_
      rintro e w2 ⟨rfl, C1⟩
      clear k2 k3 k4 k5 k6 k7 k8 k9
      go_wp2_with fail
      refine (Has.call C1 (containsf_is v ps a0 a1 b0 b1 c0 c1 d0 d1 _ _ w2 w (HV.out.later C1.low) C1 _ H1.out)).mono ?_
      rintro e w3 ⟨rfl, C2⟩
      go_wp2_with fail
      go_ret
      exact ⟨ret_b HR.out.symm, C2.low⟩
    · have HR := Lib.hid (show mbP a0 a1 b0 b1 c0 c1 d0 d1 ps = true by unfold mbP; rw [hX, if_neg h0, if_neg h1])
      have f1 : (X == 1) = false := by rw [beq_eq_false_iff_ne]; exact h1
      clear hX h0 h1
      go_enter Try.func54, Try.ntmps54
      go_wp2_with fail
      change Has w _ ((w.alloc (.cells #[.int .i64 a0, .int .i64 a1, .int .i64 b0, .int .i64 b1] 64)).alloc (.cells #[.int .i64 c0, .int .i64 c1, .int .i64 d0, .int .i64 d1] 64)) at C0
      generalize (w.alloc (.cells #[.int .i64 a0, .int .i64 a1, .int .i64 b0, .int .i64 b1] 64)).alloc (.cells #[.int .i64 c0, .int .i64 c1, .int .i64 d0, .int .i64 d1] 64) = w1 at *
      obtain ⟨k2, k3, k4, k5, k6, k7, k8, k9⟩ := C0.two4
      go_wp2_with fail
      refine (Has.call C0 (lmeet_is _ _ _ _ _ _ _ _ _ HX.out _)).mono ?_
      rintro e w2 ⟨rfl, C1⟩
      clear k2 k3 k4 k5 k6 k7 k8 k9
      go_wp2_with fail
      go_ret
      exact ⟨ret_b HR.out.symm, C1.low⟩
theorem beside_is (v : Value) (ps : List (Int × Int)) (a0 a1 b0 b1 c0 c1 d0 d1 : Int) (w : World) (hv : RowP w v ps) (r : Bool) (h : mbP a0 a1 b0 b1 c0 c1 d0 d1 ps = r) :
    Calls Try.prog 54 #[.agg #[.int .i64 a0, .int .i64 a1, .int .i64 b0, .int .i64 b1], .agg #[.int .i64 c0, .int .i64 c1, .int .i64 d0, .int .i64 d1], v] w fun e w' => e = .returned (.bool r) ∧ Below w.heap.size w w' := h ▸ beside_any v ps a0 a1 b0 b1 c0 c1 d0 d1 w hv

end Go.Proofs.Ytkejilomempogaa

namespace Go.Proofs.Ytkejilomempogaa
open Go.RowKit Go.Lib

theorem Own.base {b b' : Nat} {w : World} {v : Value} {ps : List (Int × Int)} (h : Own b w v ps) (hb : b' ≤ b) : Own b' w v ps :=
  ⟨h.1, h.2.imp id fun ⟨g, cap, cur, h1, h2, r⟩ => ⟨g, cap, cur, h1, Nat.le_trans hb h2, r⟩⟩
/-- The ends of one list that are ends of another one. -/
def comP (l m : List (Int × Int)) : List (Int × Int) := (endsP l).filter (fun p => (endsP m).any (eqP p))
theorem ends_len (l : List (Int × Int)) : (endsP l).length ≤ 2 := by unfold endsP; split <;> simp
theorem filt_next {L : List (Int × Int)} {f : Int × Int → Bool} {k : Nat} {p : Int × Int} (h : L[k]? = some p) : (L.take (k + 1)).filter f = (L.take k).filter f ++ (if f p = true then [p] else []) := by
  rw [List.take_add_one, h, List.filter_append]
  congr 1
  cases hf : f p <;> simp [hf]

set_option linter.unusedSimpArgs false in
set_option maxRecDepth 100000 in
set_option maxHeartbeats 4000000 in
theorem common_any (u v : Value) (l m : List (Int × Int)) (w : World) (hu : RowP w u l) (hv : RowP w v m) :
    Calls Try.prog 53 #[u, v] w fun e w' => ∃ x, e = .returned x ∧ Own w.heap.size w' x (comP l m) ∧ Below w.heap.size w w' := by
  have HU := Lib.hid hu
  have HV := Lib.hid hv
  clear hu hv
  go_enter Try.func53, Try.ntmps53
  go_wp2_with fail
  refine (lends_any u l w HU.out).mono ?_
  rintro e w1 ⟨x, rfl, hE, g1⟩
  have hE0 := hE
  obtain ⟨a, cap, rfl, hc1, hc2, -⟩ := hE0
  have hl2 := ends_len l
  obtain ⟨n, hn⟩ : ∃ n, (endsP l).length = n := ⟨_, rfl⟩
  rw [hn] at hE hc1 hl2 ⊢
  have HE := Lib.hid hE
  have HN := Lib.hid hn
  clear hE hn
  go_wp2_with fail
  go_loopw [11, 5] (fun i c wr => ∃ k : Nat, k ≤ n ∧ i = .int .i64 k ∧ Own w1.heap.size wr c (((endsP l).take k).filter (fun p => (endsP m).any (eqP p))) ∧ Grows w1 wr) (fun i _ _ => n - (RowKit.intOf i).toNat)
  case atStart => exact ⟨0, Nat.zero_le _, rfl, Own.nil _ _, Below.refl _ _⟩
  case round =>
    obtain ⟨k, hk, rfl, hO, hG⟩ := hrel
    by_cases hlt : k < n
    · have hR := HE.out.later hG
      obtain ⟨b, o, rfl, -⟩ := hR.spot (by rw [HN.out]; omega)
      obtain ⟨x, y, hp⟩ := some_pt (ps := endsP l) (k := k) (by rw [HN.out]; exact hlt)
      obtain ⟨c0, c1⟩ := hR.cells hp
      have hnx := filt_next (f := fun p => (endsP m).any (eqP p)) hp
      have HP := Lib.hid hp
      have bb1 : (k : Int) < n := by omega
      have bb6 : (0 : Int) ≤ k := by omega
      have E := (Has.nil hG).push [.int .i64 x, .int .i64 y] 36
      change Has w1 _ (wr.alloc (.cells #[.int .i64 x, .int .i64 y] 36)) at E
      have hO1 := hO.later ((Below.refl _ wr).alloc (Nat.le_refl _) (.cells #[.int .i64 x, .int .i64 y] 36))
      obtain ⟨q, hq⟩ : ∃ q, (endsP m).any (eqP (x, y)) = q := ⟨_, rfl⟩
      simp only [hq] at hnx
      have HQ := Lib.hid hq
      have HX := Lib.hid hnx
      clear hp hR hnx hq
      go_wp2_with fail
      have X0 := E.drew
      have hO2 : Own w1.heap.size (wr.alloc (.cells #[.int .i64 x, .int .i64 y] 36)).drew _ _ := hO1.later ((Below.refl _ _).drew)
      generalize wr.heap.size = G at *
      have ms1 := Lib.hid (show ∀ w', Has w1 [(G, [.int .i64 x, .int .i64 y])] w' → (w'.cell? ⟨G, 0, none⟩ = some (.int .i64 x) ∧ w'.cell? ⟨G, 1, none⟩ = some (.int .i64 y)) ∧ Has w1 [(G, [.int .i64 x, .int .i64 y])] w' from fun w' h => by
        exact ⟨⟨h.fact (.head _) (i := 0) rfl, h.fact (.head _) (i := 1) rfl⟩, h⟩)
      refine wp_region_held_drew (S := (fun w' => (w'.cell? ⟨G, 0, none⟩ = some (.int .i64 x) ∧ w'.cell? ⟨G, 1, none⟩ = some (.int .i64 y)) ∧ Has w1 [(G, [.int .i64 x, .int .i64 y])] w')) (by kernel_rfl) (ms1.out _ X0) (fun hHeld => ?_)
      refine wpAnyT_begin [0, 2] (by kernel_rfl) (by kernel_rfl) ?_
      refine wpAnyT_take (oi := ⟨some 15, Op.move (Operand.tmp 1), 23, _, _, none⟩) (v := v) rfl (fun _ _ _ h => h) (by rfl) (by assumption) (fun wS hSw => ?_) ?_
      · (try dsimp only at hSw); go_simp
      simp only [Act.put, List.setIfInBounds_toArray, List.set_cons_zero, List.set_cons_succ]
      refine wpAnyT_take (oi := ⟨some 17, Op.load 36 (Operand.tmp 7), 36, _, _, none⟩) (v := .agg #[.int .i64 x, .int .i64 y]) rfl (fun _ _ _ h => h) (by rfl) (by assumption) (fun wS hSw => ?_) ?_
      · (try dsimp only at hSw); go_simp
      simp only [Act.put, List.setIfInBounds_toArray, List.set_cons_zero, List.set_cons_succ]
      refine wpAnyT_end ?_
      refine wpAnyH_listed #[true, false, true, false] (by kernel_rfl) ?_
      refine wpAnyH_ready (rs := [1]) (by kernel_rfl) (by simp) ?_
      refine AllReadyH.cons (o := ⟨some 16, Op.call { callee := Callee.value (Operand.func 81), args := #[Operand.tmp 15], argTypes := #[23] }, 23, _, _, none⟩) rfl (fun K hK => ?_) AllReadyH.nil
      go_simp
      go_at_call 81
      refine (lends_any v m _ (HV.out.later (Grows.then g1 X0.low))).mono ?_
      rintro e W1 ⟨u2, rfl, hE2, g2⟩
      have X1 := X0.later g2
      have hO3 := hO2.later g2
      go_wp2_with fail
      clear hHeld
      refine hK.out _ _ (ms1.out _ X1) (fun hHeld => ?_)
      clear hK K
      try simp only [List.setIfInBounds_toArray, List.set_cons_zero, List.set_cons_succ]
      refine wpAnyH_listed #[true, true, true, false] (by kernel_rfl) ?_
      refine wpAnyH_ready (rs := [3]) (by kernel_rfl) (by simp) ?_
      refine AllReadyH.cons (o := ⟨some 18, Op.call { callee := Callee.value (Operand.func 82), args := #[Operand.tmp 16, Operand.tmp 17], argTypes := #[23, 36] }, 4, _, _, none⟩) rfl (fun K hK => ?_) AllReadyH.nil
      go_simp
      go_at_call 82
      refine (contains_is u2 _ x y _ hE2 _ HQ.out).mono ?_
      rintro e W2 ⟨rfl, g3⟩
      have X2 := X1.later g3
      have hO4 := hO3.later g3
      go_wp2_with fail
      clear hHeld
      refine hK.out _ _ (ms1.out _ X2) (fun hHeld => ?_)
      clear hK K
      try simp only [List.setIfInBounds_toArray, List.set_cons_zero, List.set_cons_succ]
      refine wpAnyH_listed #[true, true, true, true] (by kernel_rfl) ?_
      refine wpAnyH_done (by kernel_rfl) ?_ _
      clear hHeld
      cases q
      · simp only [Bool.false_eq_true, if_false, List.append_nil] at HX
        go_wp2_with fail
        go_roundw
        case rel => exact ⟨k + 1, by omega, by go_num, by rw [HX.out]; exact hO4, X2.low⟩
        case measure => simp [RowKit.intOf]; omega
      · simp only [if_true] at HX
        obtain ⟨k0, k1⟩ := X2.pt
        obtain ⟨C, R⟩ := one_row (Has.nil X2.low) rfl [(x, y)] (by simp)
        change RowP (W2.alloc (.cells #[.int .i64 x, .int .i64 y] 36)) _ _ at R
        have hO5 := hO4.later ((Below.refl _ W2).alloc (Nat.le_refl _) (.cells #[.int .i64 x, .int .i64 y] 36))
        have hlen : (((endsP l).take k).filter (fun p => (endsP m).any (eqP p))).length ≤ 2 := Nat.le_trans (List.length_filter_le _ _) (by rw [List.length_take]; have := ends_len l; omega)
        go_wp2_with (at_builtin; refine wpList_append_pts rfl _ _ rfl rfl hO5 rfl R (by simp; omega) (by simp; exact Nat.le_succ_of_le X2.low.size) ?_)
        intro u3 w3 hO6 hG3
        have hG4 := grow_append C.low hO5 (Nat.le_refl _) hG3
        go_wp2_with fail
        go_roundw
        case rel => exact ⟨k + 1, by omega, by go_num, by rw [HX.out]; exact hO6, hG4⟩
        case measure => simp [RowKit.intOf]; omega
    · obtain rfl : k = n := by omega
      go_wp2_with fail
      go_ret
      exact ⟨_, rfl, by rw [List.take_of_length_le (by rw [HN.out]; exact Nat.le_refl _)] at hO; exact hO.base g1.size, Grows.then g1 hG⟩

end Go.Proofs.Ytkejilomempogaa
