/- Lists: whether one contains a point, or one for which something holds. line.commonEnds. line.Cross. The reference: whether a common end is on both segments. The reference: Cross. -/
import Derived.Test.YtoaldbjcpfkcjaaGreatcB8
import Derived.Deep.RegionWith
namespace Go.Proofs.YtoaldbjcpfkcjaaGreat
open Go.RowKit Go.Lib

theorem take_not {ps : List (Int × Int)} {f : Int × Int → Bool} {k : Nat} {p : Int × Int} (h : ps[k]? = some p) (ha : (ps.take k).any f = false) (hr : f p = false) : (ps.take (k + 1)).any f = false := by
 rw [List.take_add_one, h, List.any_append, ha]
 simp [hr]
theorem any_at {ps : List (Int × Int)} {f : Int × Int → Bool} {k : Nat} {p : Int × Int} (h : ps[k]? = some p) (hr : f p = true) : ps.any f = true := List.any_eq_true.2 ⟨p, List.mem_of_getElem? h, hr⟩
theorem any_end {ps : List (Int × Int)} {f : Int × Int → Bool} {k : Nat} (h : k = ps.length) (ha : (ps.take k).any f = false) : ps.any f = false := by
 subst h; rwa [List.take_length] at ha
def eqP (p q : Int × Int) : Bool := decide (p = q)

set_option linter.unusedSimpArgs false in
set_option maxRecDepth 100000 in
set_option maxHeartbeats 4000000 in
theorem index_any (v : Value) (ps : List (Int × Int)) (p0 p1 : Int) (w : World) (hv : RowP w v ps) :
  Calls Tryz.prog 140 #[v, .agg #[.int .i64 p0, .int .i64 p1]] w fun e w' => (∃ z : Int, e = .returned (.int .i64 z) ∧ decide (0 ≤ z) = ps.any (eqP (p0, p1))) ∧ Below w.heap.size w w' := by
 have hv0 := hv
 obtain ⟨a, cap, rfl, hc1, hc2, -⟩ := hv0
 obtain ⟨m, hm⟩ : ∃ m, ps.length = m := ⟨_, rfl⟩
 rw [hm] at hv hc1 ⊢
 have HV := Lib.hid hv
 have HM := Lib.hid hm
 clear hv hm
 have C0 := has1 (w := w) [.int .i64 p0, .int .i64 p1] 37
 go_enter Tryz.func140, Tryz.ntmps140
 go_wp2_with fail
 change Has w _ (w.alloc (.cells #[.int .i64 p0, .int .i64 p1] 37)) at C0
 generalize w.alloc (.cells #[.int .i64 p0, .int .i64 p1] 37) = w1 at *
 go_loopw [8] (fun i wr => ∃ k : Nat, k ≤ m ∧ i = .int .i64 k ∧ Hid ((ps.take k).any (eqP (p0, p1)) = false) ∧ Has w [(w.heap.size, [.int .i64 p0, .int .i64 p1])] wr) (fun i _ => m - (RowKit.intOf i).toNat)
 case atStart => exact ⟨0, Nat.zero_le _, rfl, Lib.hid rfl, C0⟩
 case round =>
  clear C0
  obtain ⟨k, hk, rfl, HA, hI⟩ := hrel
  by_cases hlt : k < m
  ·have hR := HV.out.later hI.low
   obtain ⟨b, o, rfl, -⟩ := hR.spot (by rw [HM.out]; omega)
   obtain ⟨x, y, hp⟩ := some_pt (ps := ps) (k := k) (by rw [HM.out]; exact hlt)
   obtain ⟨c0, c1⟩ := hR.cells hp
   obtain ⟨k0, k1⟩ := hI.pt
   have HP := Lib.hid hp
   clear hp hR
   have bb1 : (k : Int) < m := by omega
   have bb6 : (0 : Int) ≤ k := by omega
   rcases eq3 p0 p1 x y with ⟨e1, e2, e3⟩ | ⟨e1, e2, e3⟩ | ⟨e1, e3⟩
   ·have HE := Lib.hid e3
    clear e3
    go_wp2_with fail
    go_region
    go_wp2_with fail
    go_ret
    exact ⟨⟨k, rfl, by rw [any_at HP.out HE.out]; exact decide_eq_true bb6⟩, hI.drew.low⟩
   all_goals
    have HE := Lib.hid e3
    clear e3
    go_wp2_with fail
    go_region
    go_wp2_with fail
    go_roundw
    case rel => exact ⟨k + 1, by omega, by go_num, Lib.hid (take_not HP.out HA.out HE.out), hI.drew⟩
    case measure => simp [RowKit.intOf]; omega
  ·obtain rfl : k = m := by omega
   go_wp2_with fail
   go_ret
   exact ⟨⟨-1, rfl, by rw [any_end HM.out.symm HA.out]; rfl⟩, hI.low⟩

theorem contains_any (v : Value) (ps : List (Int × Int)) (p0 p1 : Int) (w : World) (hv : RowP w v ps) :
  Calls Tryz.prog 122 #[v, .agg #[.int .i64 p0, .int .i64 p1]] w fun e w' => e = .returned (.bool (ps.any (eqP (p0, p1)))) ∧ Below w.heap.size w w' := by
 have HV := Lib.hid hv
 clear hv
 have C0 := has1 (w := w) [.int .i64 p0, .int .i64 p1] 37
 go_enter Tryz.func122, Tryz.ntmps122
 go_wp2_with fail
 change Has w _ (w.alloc (.cells #[.int .i64 p0, .int .i64 p1] 37)) at C0
 generalize w.alloc (.cells #[.int .i64 p0, .int .i64 p1] 37) = w1 at *
 obtain ⟨k0, k1⟩ := C0.pt
 go_wp2_with fail
 refine (index_any v ps p0 p1 w1 (HV.out.later C0.low)).mono ?_
 rintro e w2 ⟨⟨z, rfl, hz⟩, g2⟩
 have HZ := Lib.hid hz
 clear hz
 go_wp2_with fail
 go_ret
 exact ⟨ret_b HZ.out, Grows.then C0.low g2⟩
theorem contains_is (v : Value) (ps : List (Int × Int)) (p0 p1 : Int) (w : World) (hv : RowP w v ps) (r : Bool) (h : ps.any (eqP (p0, p1)) = r) :
  Calls Tryz.prog 122 #[v, .agg #[.int .i64 p0, .int .i64 p1]] w fun e w' => e = .returned (.bool r) ∧ Below w.heap.size w w' := h ▸ contains_any v ps p0 p1 w hv

/-- Whether a point is on both of two segments. -/
def bothP (a0 a1 b0 b1 c0 c1 d0 d1 : Int) (p : Int × Int) : Bool := onOf a0 a1 b0 b1 p.1 p.2 && onOf c0 c1 d0 d1 p.1 p.2
set_option maxRecDepth 100000 in
set_option maxHeartbeats 4000000 in
theorem both_any (a0 a1 b0 b1 c0 c1 d0 d1 p0 p1 : Int) (S T : Nat) (w w0 : World) (bs : List (Nat × List Value)) (hH : Has w0 ((S, [.int .i64 a0, .int .i64 a1, .int .i64 b0, .int .i64 b1]) :: (T, [.int .i64 c0, .int .i64 c1, .int .i64 d0, .int .i64 d1]) :: bs) w) :
  Calls Tryz.prog 125 #[.agg #[.int .i64 p0, .int .i64 p1], .pointer (some ⟨S, 0, none⟩), .pointer (some ⟨T, 0, none⟩)] w fun e w' => e = .returned (.bool (bothP a0 a1 b0 b1 c0 c1 d0 d1 (p0, p1))) ∧ Below w.heap.size w w' := by
 obtain ⟨r1, h1⟩ : ∃ r, onOf a0 a1 b0 b1 p0 p1 = r := ⟨_, rfl⟩
 obtain ⟨r2, h2⟩ : ∃ r, onOf c0 c1 d0 d1 p0 p1 = r := ⟨_, rfl⟩
 have hR : bothP a0 a1 b0 b1 c0 c1 d0 d1 (p0, p1) = (r1 && r2) := by unfold bothP; rw [h1, h2]
 rw [hR]
 have H1 := Lib.hid h1
 have H2 := Lib.hid h2
 clear h1 h2 hR
 have D0 := hH.push [.int .i64 p0, .int .i64 p1] 37
 have gr : Grows w (w.alloc (.cells #[.int .i64 p0, .int .i64 p1] 37)) := (Below.refl _ w).alloc (Nat.le_refl _) _
 change Has w0 _ (w.alloc (.cells #[.int .i64 p0, .int .i64 p1] 37)) at D0
 obtain ⟨k0, k1⟩ := D0.pt
 obtain ⟨k2, k3, k4, k5, k6, k7, k8, k9⟩ := D0.tail.two4
 cases r1
 ·go_enter Tryz.func125, Tryz.ntmps125
  go_wp2_with fail
  generalize w.alloc (.cells #[.int .i64 p0, .int .i64 p1] 37) = w1 at *
  refine (on_is a0 a1 b0 b1 p0 p1 _ H1.out _).mono ?_
  rintro e w2 ⟨rfl, g2⟩
  clear k0 k1 k2 k3 k4 k5 k6 k7 k8 k9
  go_wp2_with fail
  go_ret
  exact ⟨rfl, gr.then g2⟩
 ·go_enter Tryz.func125, Tryz.ntmps125
  go_wp2_with fail
  generalize w.alloc (.cells #[.int .i64 p0, .int .i64 p1] 37) = w1 at *
  refine (on_is a0 a1 b0 b1 p0 p1 _ H1.out _).mono ?_
  rintro e w2 ⟨rfl, g2⟩
  clear k0 k1 k2 k3 k4 k5 k6 k7 k8 k9
  have D1 := D0.later g2
  obtain ⟨k0, k1⟩ := D1.pt
  obtain ⟨k2, k3, k4, k5, k6, k7, k8, k9⟩ := D1.tail.two4
  go_wp2_with fail
  refine (on_is c0 c1 d0 d1 p0 p1 _ H2.out _).mono ?_
  rintro e w3 ⟨rfl, g3⟩
  go_wp2_with fail
  go_ret
  exact ⟨rfl, (gr.then g2).then g3⟩
theorem both_is (a0 a1 b0 b1 c0 c1 d0 d1 p0 p1 : Int) (S T : Nat) (w w0 : World) (bs : List (Nat × List Value)) (hH : Has w0 ((S, [.int .i64 a0, .int .i64 a1, .int .i64 b0, .int .i64 b1]) :: (T, [.int .i64 c0, .int .i64 c1, .int .i64 d0, .int .i64 d1]) :: bs) w) (r : Bool) (h : bothP a0 a1 b0 b1 c0 c1 d0 d1 (p0, p1) = r) :
  Calls Tryz.prog 125 #[.agg #[.int .i64 p0, .int .i64 p1], .pointer (some ⟨S, 0, none⟩), .pointer (some ⟨T, 0, none⟩)] w fun e w' => e = .returned (.bool r) ∧ Below w.heap.size w w' := h ▸ both_any a0 a1 b0 b1 c0 c1 d0 d1 p0 p1 S T w w0 bs hH

set_option linter.unusedSimpArgs false in
set_option maxRecDepth 100000 in
set_option maxHeartbeats 4000000 in
theorem indexf_any (v : Value) (ps : List (Int × Int)) (a0 a1 b0 b1 c0 c1 d0 d1 : Int) (S T : Nat) (w w0 : World) (hv : RowP w v ps) (hH : Has w0 [(S, [.int .i64 a0, .int .i64 a1, .int .i64 b0, .int .i64 b1]), (T, [.int .i64 c0, .int .i64 c1, .int .i64 d0, .int .i64 d1])] w) :
  Calls Tryz.prog 141 #[v, .func (.func 125) #[] #[.pointer (some ⟨S, 0, none⟩), .pointer (some ⟨T, 0, none⟩)]] w fun e w' => (∃ z : Int, e = .returned (.int .i64 z) ∧ decide (0 ≤ z) = ps.any (bothP a0 a1 b0 b1 c0 c1 d0 d1)) ∧ Below w.heap.size w w' := by
 have hv0 := hv
 obtain ⟨a, cap, rfl, hc1, hc2, -⟩ := hv0
 obtain ⟨m, hm⟩ : ∃ m, ps.length = m := ⟨_, rfl⟩
 rw [hm] at hv hc1 ⊢
 have HV := Lib.hid hv
 have HM := Lib.hid hm
 have HH := Lib.hid hH
 clear hv hm hH
 go_enter Tryz.func141, Tryz.ntmps141
 go_wp2_with fail
 go_loopw [8] (fun i wr => ∃ k : Nat, k ≤ m ∧ i = .int .i64 k ∧ Hid ((ps.take k).any (bothP a0 a1 b0 b1 c0 c1 d0 d1) = false) ∧ Grows w wr) (fun i _ => m - (RowKit.intOf i).toNat)
 case atStart => exact ⟨0, Nat.zero_le _, rfl, Lib.hid rfl, Below.refl _ _⟩
 case round =>
  obtain ⟨k, hk, rfl, HA, hG⟩ := hrel
  by_cases hlt : k < m
  ·have hR := HV.out.later hG
   obtain ⟨b, o, rfl, -⟩ := hR.spot (by rw [HM.out]; omega)
   obtain ⟨x, y, hp⟩ := some_pt (ps := ps) (k := k) (by rw [HM.out]; exact hlt)
   obtain ⟨c0', c1'⟩ := hR.cells hp
   have HP := Lib.hid hp
   have HB := HH.out.later hG
   clear hp hR
   have bb1 : (k : Int) < m := by omega
   have bb6 : (0 : Int) ≤ k := by omega
   cases hq : bothP a0 a1 b0 b1 c0 c1 d0 d1 (x, y)
   ·have HQ := Lib.hid hq
    clear hq
    go_wp2_with fail
    refine (both_is a0 a1 b0 b1 c0 c1 d0 d1 x y S T _ w0 [] HB _ HQ.out).mono ?_
    rintro e w2 ⟨rfl, g2⟩
    clear c0' c1'
    go_wp2_with fail
    go_roundw
    case rel => exact ⟨k + 1, by omega, by go_num, Lib.hid (take_not HP.out HA.out HQ.out), hG.then g2⟩
    case measure => simp [RowKit.intOf]; omega
   ·have HQ := Lib.hid hq
    clear hq
    go_wp2_with fail
    refine (both_is a0 a1 b0 b1 c0 c1 d0 d1 x y S T _ w0 [] HB _ HQ.out).mono ?_
    rintro e w2 ⟨rfl, g2⟩
    clear c0' c1'
    go_wp2_with fail
    go_ret
    exact ⟨⟨k, rfl, by rw [any_at HP.out HQ.out]; exact decide_eq_true bb6⟩, hG.then g2⟩
  ·obtain rfl : k = m := by omega
   go_wp2_with fail
   go_ret
   exact ⟨⟨-1, rfl, by rw [any_end HM.out.symm HA.out]; rfl⟩, hG⟩
theorem containsf_any (v : Value) (ps : List (Int × Int)) (a0 a1 b0 b1 c0 c1 d0 d1 : Int) (S T : Nat) (w w0 : World) (hv : RowP w v ps) (hH : Has w0 [(S, [.int .i64 a0, .int .i64 a1, .int .i64 b0, .int .i64 b1]), (T, [.int .i64 c0, .int .i64 c1, .int .i64 d0, .int .i64 d1])] w) :
  Calls Tryz.prog 124 #[v, .func (.func 125) #[] #[.pointer (some ⟨S, 0, none⟩), .pointer (some ⟨T, 0, none⟩)]] w fun e w' => e = .returned (.bool (ps.any (bothP a0 a1 b0 b1 c0 c1 d0 d1))) ∧ Below w.heap.size w w' := by
 have HV := Lib.hid hv
 have HH := Lib.hid hH
 clear hv hH
 go_enter Tryz.func124, Tryz.ntmps124
 go_wp2_with fail
 refine (indexf_any v ps a0 a1 b0 b1 c0 c1 d0 d1 S T w w0 HV.out HH.out).mono ?_
 rintro e w2 ⟨⟨z, rfl, hz⟩, g2⟩
 have HZ := Lib.hid hz
 clear hz
 go_wp2_with fail
 go_ret
 exact ⟨ret_b HZ.out, g2⟩
theorem containsf_is (v : Value) (ps : List (Int × Int)) (a0 a1 b0 b1 c0 c1 d0 d1 : Int) (S T : Nat) (w w0 : World) (hv : RowP w v ps) (hH : Has w0 [(S, [.int .i64 a0, .int .i64 a1, .int .i64 b0, .int .i64 b1]), (T, [.int .i64 c0, .int .i64 c1, .int .i64 d0, .int .i64 d1])] w) (r : Bool) (h : ps.any (bothP a0 a1 b0 b1 c0 c1 d0 d1) = r) :
  Calls Tryz.prog 124 #[v, .func (.func 125) #[] #[.pointer (some ⟨S, 0, none⟩), .pointer (some ⟨T, 0, none⟩)]] w fun e w' => e = .returned (.bool r) ∧ Below w.heap.size w w' := h ▸ containsf_any v ps a0 a1 b0 b1 c0 c1 d0 d1 S T w w0 hv hH

/-- Whether two segments have a common point other than those of a list. -/
def mbP (a0 a1 b0 b1 c0 c1 d0 d1 : Int) (ps : List (Int × Int)) : Bool := if lmeet a0 a1 b0 b1 c0 c1 d0 d1 = 0 then false else if lmeet a0 a1 b0 b1 c0 c1 d0 d1 = 1 then !ps.any (bothP a0 a1 b0 b1 c0 c1 d0 d1) else true
set_option maxRecDepth 100000 in
set_option maxHeartbeats 4000000 in
theorem beside_any (v : Value) (ps : List (Int × Int)) (a0 a1 b0 b1 c0 c1 d0 d1 : Int) (w : World) (hv : RowP w v ps) :
  Calls Tryz.prog 91 #[.agg #[.int .i64 a0, .int .i64 a1, .int .i64 b0, .int .i64 b1], .agg #[.int .i64 c0, .int .i64 c1, .int .i64 d0, .int .i64 d1], v] w fun e w' => e = .returned (.bool (mbP a0 a1 b0 b1 c0 c1 d0 d1 ps)) ∧ Below w.heap.size w w' := by
 have HV := Lib.hid hv
 clear hv
 obtain ⟨X, hX⟩ : ∃ X, lmeet a0 a1 b0 b1 c0 c1 d0 d1 = X := ⟨_, rfl⟩
 have HX := Lib.hid hX
 have C0 := has2 (w := w) [.int .i64 a0, .int .i64 a1, .int .i64 b0, .int .i64 b1] [.int .i64 c0, .int .i64 c1, .int .i64 d0, .int .i64 d1] 120 120
 by_cases h0 : X = 0
 ·have HR := Lib.hid (show mbP a0 a1 b0 b1 c0 c1 d0 d1 ps = false by unfold mbP; rw [hX, if_pos h0])
  have f0 : (X == 0) = true := by rw [beq_iff_eq]; exact h0
  clear hX h0
  go_enter Tryz.func91, Tryz.ntmps91
  go_wp2_with fail
  change Has w _ ((w.alloc (.cells #[.int .i64 a0, .int .i64 a1, .int .i64 b0, .int .i64 b1] 120)).alloc (.cells #[.int .i64 c0, .int .i64 c1, .int .i64 d0, .int .i64 d1] 120)) at C0
  generalize (w.alloc (.cells #[.int .i64 a0, .int .i64 a1, .int .i64 b0, .int .i64 b1] 120)).alloc (.cells #[.int .i64 c0, .int .i64 c1, .int .i64 d0, .int .i64 d1] 120) = w1 at *
  obtain ⟨k2, k3, k4, k5, k6, k7, k8, k9⟩ := C0.two4
  go_wp2_with fail
  refine (Has.call C0 (lmeet_is _ _ _ _ _ _ _ _ _ HX.out _)).mono ?_
  rintro e w2 ⟨rfl, C1⟩
  clear k2 k3 k4 k5 k6 k7 k8 k9
  go_wp2_with fail
  go_ret
  exact ⟨ret_b HR.out.symm, C1.low⟩
 ·have f0 : (X == 0) = false := by rw [beq_eq_false_iff_ne]; exact h0
  by_cases h1 : X = 1
  ·obtain ⟨r, hr⟩ : ∃ r, ps.any (bothP a0 a1 b0 b1 c0 c1 d0 d1) = r := ⟨_, rfl⟩
   have HR := Lib.hid (show mbP a0 a1 b0 b1 c0 c1 d0 d1 ps = !r by unfold mbP; rw [hX, if_neg h0, if_pos h1, hr])
   have H1 := Lib.hid hr
   have f1 : (X == 1) = true := by rw [beq_iff_eq]; exact h1
   clear hX h0 h1 hr
   go_enter Tryz.func91, Tryz.ntmps91
   go_wp2_with fail
   change Has w _ ((w.alloc (.cells #[.int .i64 a0, .int .i64 a1, .int .i64 b0, .int .i64 b1] 120)).alloc (.cells #[.int .i64 c0, .int .i64 c1, .int .i64 d0, .int .i64 d1] 120)) at C0
   generalize (w.alloc (.cells #[.int .i64 a0, .int .i64 a1, .int .i64 b0, .int .i64 b1] 120)).alloc (.cells #[.int .i64 c0, .int .i64 c1, .int .i64 d0, .int .i64 d1] 120) = w1 at *
   obtain ⟨k2, k3, k4, k5, k6, k7, k8, k9⟩ := C0.two4
   go_wp2_with fail
   refine (Has.call C0 (lmeet_is _ _ _ _ _ _ _ _ _ HX.out _)).mono ?_
   rintro e w2 ⟨rfl, C1⟩
   clear k2 k3 k4 k5 k6 k7 k8 k9
   go_wp2_with fail
   refine (Has.call C1 (containsf_is v ps a0 a1 b0 b1 c0 c1 d0 d1 _ _ w2 w (HV.out.later C1.low) C1 _ H1.out)).mono ?_
   rintro e w3 ⟨rfl, C2⟩
   go_wp2_with fail
   go_ret
   exact ⟨ret_b HR.out.symm, C2.low⟩
  ·have HR := Lib.hid (show mbP a0 a1 b0 b1 c0 c1 d0 d1 ps = true by unfold mbP; rw [hX, if_neg h0, if_neg h1])
   have f1 : (X == 1) = false := by rw [beq_eq_false_iff_ne]; exact h1
   clear hX h0 h1
   go_enter Tryz.func91, Tryz.ntmps91
   go_wp2_with fail
   change Has w _ ((w.alloc (.cells #[.int .i64 a0, .int .i64 a1, .int .i64 b0, .int .i64 b1] 120)).alloc (.cells #[.int .i64 c0, .int .i64 c1, .int .i64 d0, .int .i64 d1] 120)) at C0
   generalize (w.alloc (.cells #[.int .i64 a0, .int .i64 a1, .int .i64 b0, .int .i64 b1] 120)).alloc (.cells #[.int .i64 c0, .int .i64 c1, .int .i64 d0, .int .i64 d1] 120) = w1 at *
   obtain ⟨k2, k3, k4, k5, k6, k7, k8, k9⟩ := C0.two4
   go_wp2_with fail
   refine (Has.call C0 (lmeet_is _ _ _ _ _ _ _ _ _ HX.out _)).mono ?_
   rintro e w2 ⟨rfl, C1⟩
   clear k2 k3 k4 k5 k6 k7 k8 k9
   go_wp2_with fail
   go_ret
   exact ⟨ret_b HR.out.symm, C1.low⟩
theorem beside_is (v : Value) (ps : List (Int × Int)) (a0 a1 b0 b1 c0 c1 d0 d1 : Int) (w : World) (hv : RowP w v ps) (r : Bool) (h : mbP a0 a1 b0 b1 c0 c1 d0 d1 ps = r) :
  Calls Tryz.prog 91 #[.agg #[.int .i64 a0, .int .i64 a1, .int .i64 b0, .int .i64 b1], .agg #[.int .i64 c0, .int .i64 c1, .int .i64 d0, .int .i64 d1], v] w fun e w' => e = .returned (.bool r) ∧ Below w.heap.size w w' := h ▸ beside_any v ps a0 a1 b0 b1 c0 c1 d0 d1 w hv

end Go.Proofs.YtoaldbjcpfkcjaaGreat

namespace Go.Proofs.YtoaldbjcpfkcjaaGreat
open Go.RowKit Go.Lib

theorem Own.base {b b' : Nat} {w : World} {v : Value} {ps : List (Int × Int)} (h : Own b w v ps) (hb : b' ≤ b) : Own b' w v ps :=
 ⟨h.1, h.2.imp id fun ⟨g, cap, cur, h1, h2, r⟩ => ⟨g, cap, cur, h1, Nat.le_trans hb h2, r⟩⟩
/-- The ends of one list that are ends of another one. -/
def comP (l m : List (Int × Int)) : List (Int × Int) := (endsP l).filter (fun p => (endsP m).any (eqP p))
theorem ends_len (l : List (Int × Int)) : (endsP l).length ≤ 2 := by unfold endsP; split <;> simp
theorem filt_next {L : List (Int × Int)} {f : Int × Int → Bool} {k : Nat} {p : Int × Int} (h : L[k]? = some p) : (L.take (k + 1)).filter f = (L.take k).filter f ++ (if f p = true then [p] else []) := by
 rw [List.take_add_one, h, List.filter_append]
 congr 1
 cases hf : f p <;> simp [hf]

set_option linter.unusedSimpArgs false in
set_option maxRecDepth 100000 in
set_option maxHeartbeats 1000000 in
theorem lends_any (v : Value) (ps : List (Int × Int)) (w : World) (hv : RowP w v ps) :
  Calls Tryz.prog 121 #[v] w fun e w' => ∃ u, e = .returned u ∧ RowP w' u (endsP ps) ∧ Below w.heap.size w w' := by
 have hv0 := hv
 obtain ⟨a, cap, rfl, hc1, hc2, -⟩ := hv0
 by_cases h0 : ps.length = 0
 ·rw [show endsP ps = [] by unfold endsP; rw [if_pos h0], h0]
  go_enter Tryz.func121, Tryz.ntmps121
  go_wp2_with fail
  go_ret
  exact ⟨_, rfl, ⟨none, 0, rfl, by simp, by simp, .inl rfl⟩, by go_grown⟩
 ·obtain ⟨b, o, rfl, -⟩ := hv.spot (by omega)
  obtain ⟨x, y, hp⟩ := some_pt (ps := ps) (k := 0) (by omega)
  obtain ⟨x', y', hq⟩ := some_pt (ps := ps) (k := ps.length - 1) (by omega)
  obtain ⟨c0, c1⟩ := hv.cells hp
  obtain ⟨c2, c3⟩ := hv.cells hq
  rw [show endsP ps = [(x, y), (x', y')] by unfold endsP; rw [if_neg h0, pt_of hp, pt_of hq]]
  obtain ⟨m, hm⟩ : ∃ m, ps.length = m + 1 := ⟨ps.length - 1, by omega⟩
  rw [hm] at c2 c3 hc1 ⊢
  rw [show m + 1 - 1 = m by omega] at c2 c3
  clear hm hp hq hv h0
  have s1 : ((m : Int) + 1 - 1) = (m : Int) := by omega
  have s2 : IntKind.i64.wrap ((m : Int) + 1 - 1) = (m : Int) := by rw [IntWalk.i64_in _ (by omega)]; omega
  have s4 : (0 : Int) < (m : Int) + 1 := by omega
  have s5 : (m : Int) < (m : Int) + 1 := by omega
  simp only [Nat.zero_mul, Nat.add_zero] at c0 c1
  go_enter Tryz.func121, Tryz.ntmps121
  go_wp2_with fail
  go_region
  have C1 := ((Has.nil (Below.refl _ w)).push (flat [(x, y), (x', y')]) 37).drew
  go_wp2_with fail
  go_ret
  exact ⟨_, rfl, RowP.block (ps := [(x, y), (x', y')]) C1.cells (by simp) (by omega), C1.low⟩

set_option maxHeartbeats 4000000 in
theorem common_any (u v : Value) (l m : List (Int × Int)) (w : World) (hu : RowP w u l) (hv : RowP w v m) :
  Calls Tryz.prog 89 #[u, v] w fun e w' => ∃ x, e = .returned x ∧ Own w.heap.size w' x (comP l m) ∧ Below w.heap.size w w' := by
 have HU := Lib.hid hu
 have HV := Lib.hid hv
 clear hu hv
 go_enter Tryz.func89, Tryz.ntmps89
 go_wp2_with fail
 refine (lends_any u l w HU.out).mono ?_
 rintro e w1 ⟨x, rfl, hE, g1⟩
 have hE0 := hE
 obtain ⟨a, cap, rfl, hc1, hc2, -⟩ := hE0
 have hl2 := ends_len l
 obtain ⟨n, hn⟩ : ∃ n, (endsP l).length = n := ⟨_, rfl⟩
 rw [hn] at hE hc1 hl2 ⊢
 have HE := Lib.hid hE
 have HN := Lib.hid hn
 clear hE hn
 go_wp2_with fail
 go_loopw [11, 5] (fun i c wr => ∃ k : Nat, k ≤ n ∧ i = .int .i64 k ∧ Own w1.heap.size wr c (((endsP l).take k).filter (fun p => (endsP m).any (eqP p))) ∧ Grows w1 wr) (fun i _ _ => n - (RowKit.intOf i).toNat)
 case atStart => exact ⟨0, Nat.zero_le _, rfl, Own.nil _ _, Below.refl _ _⟩
 case round =>
  obtain ⟨k, hk, rfl, hO, hG⟩ := hrel
  by_cases hlt : k < n
  ·have hR := HE.out.later hG
   obtain ⟨b, o, rfl, -⟩ := hR.spot (by rw [HN.out]; omega)
   obtain ⟨x, y, hp⟩ := some_pt (ps := endsP l) (k := k) (by rw [HN.out]; exact hlt)
   obtain ⟨c0, c1⟩ := hR.cells hp
   have hnx := filt_next (f := fun p => (endsP m).any (eqP p)) hp
   have HP := Lib.hid hp
   have bb1 : (k : Int) < n := by omega
   have bb6 : (0 : Int) ≤ k := by omega
   have E := (Has.nil hG).push [.int .i64 x, .int .i64 y] 37
   change Has w1 _ (wr.alloc (.cells #[.int .i64 x, .int .i64 y] 37)) at E
   have hO1 := hO.later ((Below.refl _ wr).alloc (Nat.le_refl _) (.cells #[.int .i64 x, .int .i64 y] 37))
   obtain ⟨q, hq⟩ : ∃ q, (endsP m).any (eqP (x, y)) = q := ⟨_, rfl⟩
   simp only [hq] at hnx
   have HQ := Lib.hid hq
   have HX := Lib.hid hnx
   clear hp hR hnx hq
   go_wp2_with fail
   have X0 := E.drew
   have hO2 : Own w1.heap.size (wr.alloc (.cells #[.int .i64 x, .int .i64 y] 37)).drew _ _ := hO1.later ((Below.refl _ _).drew)
   generalize wr.heap.size = G at *
   have ms1 := Lib.hid (show ∀ w', Has w1 [(G, [.int .i64 x, .int .i64 y])] w' → (w'.cell? ⟨G, 0, none⟩ = some (.int .i64 x) ∧ w'.cell? ⟨G, 1, none⟩ = some (.int .i64 y)) ∧ Has w1 [(G, [.int .i64 x, .int .i64 y])] w' from fun w' h => by
    exact ⟨⟨h.fact (.head _) (i := 0) rfl, h.fact (.head _) (i := 1) rfl⟩, h⟩)
   refine wp_region_held_drew (S := (fun w' => (w'.cell? ⟨G, 0, none⟩ = some (.int .i64 x) ∧ w'.cell? ⟨G, 1, none⟩ = some (.int .i64 y)) ∧ Has w1 [(G, [.int .i64 x, .int .i64 y])] w')) (by kernel_rfl) (ms1.out _ X0) (fun hHeld => ?_)
   refine tbA [0, 2] ?_
   refine tkA (v) (oi := ⟨some 15, .move (.tmp 1), 42, _, _, none⟩) ?_
   simp only [Act.put, pA, pB, pC]
   refine tkA (.agg #[.int .i64 x, .int .i64 y]) (oi := ⟨some 17, .load 37 (.tmp 7), 37, _, _, none⟩) ?_
   simp only [Act.put, pA, pB, pC]
   refine teA ?_
   refine tlA #[true, false, true, false] ?_
   refine trA [1] ?_
   refine AllReadyH.cons (o := ⟨some 16, .call { callee := .value (.func 121), args := #[.tmp 15], argTypes := #[42] }, 42, _, _, none⟩) rfl (fun K hK => ?_) AllReadyH.nil
   go_simp
   go_at_call 121
   refine (lends_any v m _ (HV.out.later (Grows.then g1 X0.low))).mono ?_
   rintro e W1 ⟨u2, rfl, hE2, g2⟩
   have X1 := X0.later g2
   have hO3 := hO2.later g2
   go_wp2_with fail
   clear hHeld
   refine hK.out _ _ (ms1.out _ X1) (fun hHeld => ?_)
   clear hK K
   try simp only [pA, pB, pC]
   refine tlA #[true, true, true, false] ?_
   refine trA [3] ?_
   refine AllReadyH.cons (o := ⟨some 18, .call { callee := .value (.func 122), args := #[.tmp 16, .tmp 17], argTypes := #[42, 37] }, 4, _, _, none⟩) rfl (fun K hK => ?_) AllReadyH.nil
   go_simp
   go_at_call 122
   refine (contains_is u2 _ x y _ hE2 _ HQ.out).mono ?_
   rintro e W2 ⟨rfl, g3⟩
   have X2 := X1.later g3
   have hO4 := hO3.later g3
   go_wp2_with fail
   clear hHeld
   refine hK.out _ _ (ms1.out _ X2) (fun hHeld => ?_)
   clear hK K
   try simp only [pA, pB, pC]
   refine tlA #[true, true, true, true] ?_
   refine wpAnyH_done (by kernel_rfl) ?_ _
   clear hHeld
   cases q
   ·simp only [Bool.false_eq_true, if_false, List.append_nil] at HX
    go_wp2_with fail
    go_roundw
    case rel => exact ⟨k + 1, by omega, by go_num, by rw [HX.out]; exact hO4, X2.low⟩
    case measure => simp [RowKit.intOf]; omega
   ·simp only [if_true] at HX
    obtain ⟨k0, k1⟩ := X2.pt
    obtain ⟨C, R⟩ := one_row (Has.nil X2.low) rfl [(x, y)] (by simp)
    change RowP (W2.alloc (.cells #[.int .i64 x, .int .i64 y] 37)) _ _ at R
    have hO5 := hO4.later ((Below.refl _ W2).alloc (Nat.le_refl _) (.cells #[.int .i64 x, .int .i64 y] 37))
    have hlen : (((endsP l).take k).filter (fun p => (endsP m).any (eqP p))).length ≤ 2 := Nat.le_trans (List.length_filter_le _ _) (by rw [List.length_take]; have := ends_len l; omega)
    go_wp2_with (at_builtin; refine wpList_append_pts rfl _ _ rfl rfl hO5 rfl R (by simp; omega) (by simp; exact Nat.le_succ_of_le X2.low.size) ?_)
    intro u3 w3 hO6 hG3
    have hG4 := grow_append C.low hO5 (Nat.le_refl _) hG3
    go_wp2_with fail
    go_roundw
    case rel => exact ⟨k + 1, by omega, by go_num, by rw [HX.out]; exact hO6, hG4⟩
    case measure => simp [RowKit.intOf]; omega
  ·obtain rfl : k = n := by omega
   go_wp2_with fail
   go_ret
   exact ⟨_, rfl, by rw [List.take_of_length_le (by rw [HN.out]; exact Nat.le_refl _)] at hO; exact hO.base g1.size, Grows.then g1 hG⟩

end Go.Proofs.YtoaldbjcpfkcjaaGreat

namespace Go.Proofs.YtoaldbjcpfkcjaaGreat
open Go.RowKit Go.Lib

theorem RowP.kept {w W : World} {v : Value} {ps : List (Int × Int)} (h : RowP w v ps) (k : Kept w W) : RowP W v ps := by
 obtain ⟨a, cap, h1, h2, h3, h4⟩ := h
 refine ⟨a, cap, h1, h2, h3, h4.imp id ?_⟩
 rintro ⟨b, o, e, h⟩
 exact ⟨b, o, e, fun i p hp => ⟨k _ _ (h i p hp).1, k _ _ (h i p hp).2⟩⟩
theorem RowP.putObj {w : World} {v : Value} {ps : List (Int × Int)} {i : Nat} {o o' : Obj} (h : RowP w v ps) (ho : w.heap[i]? = some o) (hc : o.isCells = false) : RowP (w.putObj i o') v ps :=
 h.kept (Kept.putObj (fun _ _ c => c) ho hc)
/-- Whether a segment of a list and a segment of another one have a common point besides those of a third list. -/
def crI (l m c : List (Int × Int)) (i j : Nat) : Bool := mbP (pt l i).1 (pt l i).2 (pt l (i + 1)).1 (pt l (i + 1)).2 (pt m j).1 (pt m j).2 (pt m (j + 1)).1 (pt m (j + 1)).2 c
def crO (l m c : List (Int × Int)) (i : Nat) : Bool := anyTo (crI l m c i) (m.length - 1)
def crossP (l m : List (Int × Int)) : Bool := l.all rtP && (m.all rtP && (nearP l m && anyTo (crO l m (comP l m)) (l.length - 1)))

theorem segs_both {w w1 : World} {bs : List (Nat × List Value)} {v : Value} {ps : List (Int × Int)} (h : Has w bs w1) (hv : RowP w1 v ps) :
  Calls Tryz.prog 90 #[v] w1 fun e w' => (∃ B, e = .returned (.func (.func 123) #[] #[.pointer (some ⟨B, 0, none⟩)]) ∧ Has w ((B, [v]) :: bs) w') ∧ Grows w1 w' := by
 obtain ⟨a, cap, rfl, -⟩ := hv
 refine (segments_any _ _ _ _).mono ?_
 rintro e w' ⟨rfl, rfl⟩
 exact ⟨⟨_, rfl, h.push [_] 42⟩, (Below.refl _ w1).alloc (Nat.le_refl _) _⟩
theorem segs_hk2 {w w1 A : World} {K : Nat} {bs : List (Nat × List Value)} {v : Value} {ps : List (Int × Int)} (h : HK w K A bs w1) (hv : RowP w1 v ps) :
  Calls Tryz.prog 90 #[v] w1 fun e w' => (∃ B, e = .returned (.func (.func 123) #[] #[.pointer (some ⟨B, 0, none⟩)]) ∧ HK w K A ((B, [v]) :: bs) w') ∧ Grows w1 w' := by
 obtain ⟨a, cap, rfl, -⟩ := hv
 refine (segments_any _ _ _ _).mono ?_
 rintro e w' ⟨rfl, rfl⟩
 exact ⟨⟨_, rfl, h.push [_] 42⟩, (Below.refl _ w1).alloc (Nat.le_refl _) _⟩
theorem HK.call2 {w A W : World} {B : Nat} {bs : List (Nat × List Value)} {k : FuncId} {args : Array Value} {E : Ending} {P : Program} (h : HK w B A bs W) (hc : Calls P k args W fun e w' => e = E ∧ Below W.heap.size W w') : Calls P k args W fun e w' => e = E ∧ HK w B A bs w' ∧ Grows W w' :=
 hc.mono fun _ _ ⟨h1, h2⟩ => ⟨h1, h.later h2, h2⟩
attribute [local go_sem] Oper.semAt_some
set_option linter.unusedSimpArgs false in
set_option maxRecDepth 100000 in
set_option maxHeartbeats 16000000 in
theorem lcross_any (u v : Value) (l m : List (Int × Int)) (w : World) (hu : RowP w u l) (hv : RowP w v m) :
  Calls Tryz.prog 60 #[u, v] w fun e w' => e = .returned (.bool (crossP l m)) ∧ Below w.heap.size w w' := by
 have hu0 := hu
 have hv0 := hv
 obtain ⟨a, cap, rfl, hc1, hc2, -⟩ := hu0
 obtain ⟨a2, cap2, rfl, hc3, hc4, -⟩ := hv0
 have HU := Lib.hid hu
 have HV := Lib.hid hv
 clear hu hv
 have C0 := has2 (w := w) [.slice a2 m.length cap2] [.bool false] 42 4
 cases h1 : l.all rtP
 ·have HR := Lib.hid (show crossP l m = false by unfold crossP; rw [h1]; rfl)
  have H1 := Lib.hid h1
  clear h1
  go_enter Tryz.func60, Tryz.ntmps60
  go_upto_region 1 with fail
  change Has w _ ((w.alloc (.cells #[.slice a2 m.length cap2] 42)).alloc (.cells #[.bool false] 4)) at C0
  generalize (w.alloc (.cells #[.slice a2 m.length cap2] 42)).alloc (.cells #[.bool false] 4) = w1 at *
  have k0 := C0.fact (.head _) (i := 0) rfl
  go_wp2_with fail
  refine (Has.call C0 (rights_is _ l _ (HU.out.later C0.low) _ H1.out)).mono ?_
  rintro e w2 ⟨rfl, C1⟩
  clear k0
  have k0 := C1.fact (.head _) (i := 0) rfl
  have k9 := C1.tail.fact (.head _) (i := 0) rfl
  have f9 := C1.tail.free (.head _) (i := 0) rfl
  go_wp2_with fail
  have CZ := C1.swap.set 0 (by simp) (.bool false)
  generalize w2.setCell ⟨w.heap.size + 1, 0, none⟩ (.bool false) = wz at *
  have d0 : wz.cell? ⟨w.heap.size + 1, 0, none⟩ = some (.bool false) := CZ.fact (.head _) (i := 0) rfl
  exact bodyPost_ret (v := .bool false) (by simp [results, Tryz.results60, go_sem, d0]) rfl ⟨by rw [HR.out], CZ.low⟩
 ·cases h2 : m.all rtP
  ·have HR := Lib.hid (show crossP l m = false by unfold crossP; rw [h1, h2]; rfl)
   have H1 := Lib.hid h1
   have H2 := Lib.hid h2
   clear h1 h2
   go_enter Tryz.func60, Tryz.ntmps60
   go_upto_region 1 with fail
   change Has w _ ((w.alloc (.cells #[.slice a2 m.length cap2] 42)).alloc (.cells #[.bool false] 4)) at C0
   generalize (w.alloc (.cells #[.slice a2 m.length cap2] 42)).alloc (.cells #[.bool false] 4) = w1 at *
   have k0 := C0.fact (.head _) (i := 0) rfl
   go_wp2_with fail
   refine (Has.call C0 (rights_is _ l _ (HU.out.later C0.low) _ H1.out)).mono ?_
   rintro e w2 ⟨rfl, C1⟩
   clear k0
   have k0 := C1.fact (.head _) (i := 0) rfl
   go_wp2_with fail
   refine (Has.call C1 (rights_is _ m _ (HV.out.later C1.low) _ H2.out)).mono ?_
   rintro e w3 ⟨rfl, C2⟩
   clear k0
   have k9 := C2.tail.fact (.head _) (i := 0) rfl
   have f9 := C2.tail.free (.head _) (i := 0) rfl
   go_wp2_with fail
   have CZ := C2.swap.set 0 (by simp) (.bool false)
   generalize w3.setCell ⟨w.heap.size + 1, 0, none⟩ (.bool false) = wz at *
   have d0 : wz.cell? ⟨w.heap.size + 1, 0, none⟩ = some (.bool false) := CZ.fact (.head _) (i := 0) rfl
   exact bodyPost_ret (v := .bool false) (by simp [results, Tryz.results60, go_sem, d0]) rfl ⟨by rw [HR.out], CZ.low⟩
  ·cases h3 : nearP l m
   ·have HR := Lib.hid (show crossP l m = false by unfold crossP; rw [h1, h2, h3]; rfl)
    have H1 := Lib.hid h1
    have H2 := Lib.hid h2
    have H3 := Lib.hid h3
    clear h1 h2 h3
    go_enter Tryz.func60, Tryz.ntmps60
    go_upto_region 1 with fail
    change Has w _ ((w.alloc (.cells #[.slice a2 m.length cap2] 42)).alloc (.cells #[.bool false] 4)) at C0
    generalize (w.alloc (.cells #[.slice a2 m.length cap2] 42)).alloc (.cells #[.bool false] 4) = w1 at *
    have k0 := C0.fact (.head _) (i := 0) rfl
    go_wp2_with fail
    refine (Has.call C0 (rights_is _ l _ (HU.out.later C0.low) _ H1.out)).mono ?_
    rintro e w2 ⟨rfl, C1⟩
    clear k0
    have k0 := C1.fact (.head _) (i := 0) rfl
    go_wp2_with fail
    refine (Has.call C1 (rights_is _ m _ (HV.out.later C1.low) _ H2.out)).mono ?_
    rintro e w3 ⟨rfl, C2⟩
    clear k0
    have k0 := C2.fact (.head _) (i := 0) rfl
    go_wp2_with fail
    refine (Has.call C2 (lnear_is _ _ l m _ (HU.out.later C2.low) (HV.out.later C2.low) _ H3.out)).mono ?_
    rintro e w4 ⟨rfl, C3⟩
    clear k0
    have k9 := C3.tail.fact (.head _) (i := 0) rfl
    have f9 := C3.tail.free (.head _) (i := 0) rfl
    go_wp2_with fail
    have CZ := C3.swap.set 0 (by simp) (.bool false)
    generalize w4.setCell ⟨w.heap.size + 1, 0, none⟩ (.bool false) = wz at *
    have d0 : wz.cell? ⟨w.heap.size + 1, 0, none⟩ = some (.bool false) := CZ.fact (.head _) (i := 0) rfl
    exact bodyPost_ret (v := .bool false) (by simp [results, Tryz.results60, go_sem, d0]) rfl ⟨by rw [HR.out], CZ.low⟩
   ·obtain ⟨r, hr⟩ : ∃ r, anyTo (crO l m (comP l m)) (l.length - 1) = r := ⟨_, rfl⟩
    have HR := Lib.hid (show crossP l m = r by unfold crossP; rw [h1, h2, h3, hr]; rfl)
    have H1 := Lib.hid h1
    have H2 := Lib.hid h2
    have H3 := Lib.hid h3
    have HF := Lib.hid hr
    clear h1 h2 h3 hr
    refine (callsIn_wide (n := 7)).1 ?_
    refine callsIn_of_wp_marks Tryz.func60 rfl trivial ?_ rfl
    simp only [Tryz.ntmps60, List.size_toArray, List.length_cons, List.length_nil, Nat.reduceAdd, Nat.reduceSub, Array.replicate_succ, Array.replicate_zero, List.push_toArray, List.append_toArray, List.nil_append, List.cons_append]
    gi_wp2_with fail
    change Has w _ ((w.alloc (.cells #[.slice a2 m.length cap2] 42)).alloc (.cells #[.bool false] 4)) at C0
    generalize (w.alloc (.cells #[.slice a2 m.length cap2] 42)).alloc (.cells #[.bool false] 4) = w1 at *
    refine ⟨trivial, (callsIn_wide.2 (Has.call C0 (rights_is _ l _ (HU.out.later C0.low) _ H1.out))).mono ?_⟩
    rintro e w2 ⟨rfl, C1⟩
    have k0 := C1.fact (.head _) (i := 0) rfl
    gi_wp2_with fail
    refine ⟨trivial, (callsIn_wide.2 (Has.call C1 (rights_is _ m _ (HV.out.later C1.low) _ H2.out))).mono ?_⟩
    rintro e w3 ⟨rfl, C2⟩
    clear k0
    have k0 := C2.fact (.head _) (i := 0) rfl
    gi_wp2_with fail
    refine ⟨trivial, (callsIn_wide.2 (Has.call C2 (lnear_is _ _ l m _ (HU.out.later C2.low) (HV.out.later C2.low) _ H3.out))).mono ?_⟩
    rintro e w4 ⟨rfl, C3⟩
    clear k0
    have k0 := C3.fact (.head _) (i := 0) rfl
    gi_wp2_with fail
    refine ⟨trivial, (callsIn_wide.2 (common_any _ _ l m w4 (HU.out.later C3.low) (HV.out.later C3.low))).mono ?_⟩
    rintro e w5 ⟨x, rfl, hO, g5⟩
    have hx := hO.row
    obtain ⟨ax, capx, rfl, -, -, -⟩ := hO.row
    have C4 := C3.later g5
    clear k0 C0 C1 C2 C3 hO
    generalize hqc : comP l m = qs at *
    have C5 := C4.push [.slice ax qs.length capx] 42
    have hx2 := hx.later ((Below.refl _ w5).alloc (Nat.le_refl _) (.cells #[.slice ax qs.length capx] 42))
    change Has w _ (w5.alloc (.cells #[.slice ax qs.length capx] 42)) at C5
    gi_wp2_with fail
    generalize w5.alloc (.cells #[.slice ax qs.length capx] 42) = w6 at *
    generalize w5.heap.size = G at *
    refine ⟨trivial, (callsIn_wide.2 (segs_both C5 (HU.out.later C5.low))).mono ?_⟩
    rintro e w7 ⟨⟨B, rfl, C6⟩, g7⟩
    have hx3 := hx2.later g7
    clear C4 C5 hx hx2 g5
    gi_wp2_with fail
    have hM : w.heap.size + 1 < w7.heap.size := C6.tail.tail.tail.lt0
    refine range_sq (K := l.length - 1) (enc := fun k => #[.int .i64 k, .agg #[.int .i64 (pt l k).1, .int .i64 (pt l k).2, .int .i64 (pt l (k + 1)).1, .int .i64 (pt l (k + 1)).2]]) (Lv := fun W => W.cell? ⟨B, 0, none⟩ = some (.slice a l.length cap) ∧ RowP W (.slice a l.length cap) l) (w0 := w) rfl (enters_of Tryz.func123 (by kernel_rfl) rfl) (seg_seq _ l (.slice a l.length cap) B w) C6.low (fun _ => rfl)
     (fun k W => Has w [(B, [.slice a l.length cap]), (G, [.slice ax qs.length capx]), (w.heap.size, [.slice a2 m.length cap2]), (w.heap.size + 1, [.bool false])] W ∧ RowP W (.slice ax qs.length capx) qs ∧ Hid (anyTo (crO l m qs) k = false))
     (fun c k W => c = .ret ∧ Has w [(w.heap.size + 1, [.bool true])] W ∧ Hid (crO l m qs k = true))
     (fun k a' W => ∃ g, a' = { tmps := #[.slice a l.length cap, .slice a2 m.length cap2, undef, .pointer (some ⟨w.heap.size, 0, none⟩), .pointer (some ⟨w.heap.size + 1, 0, none⟩), .pointer (some ⟨G, 0, none⟩), undef, .pointer (some ⟨g, 0, none⟩), undef, undef, .slice a l.length cap, .bool true, .bool false, .bool false, .slice a2 m.length cap2, .bool true, .bool false, .bool false, .bool false, .slice a l.length cap, .slice a2 m.length cap2, .bool true, .bool false, .bool false, .slice a l.length cap, .slice a2 m.length cap2, .slice ax qs.length capx, .slice a l.length cap, .func (.func 123) #[] #[.pointer (some ⟨B, 0, none⟩)], .int .i64 k, .agg #[.int .i64 (pt l k).1, .int .i64 (pt l k).2, .int .i64 (pt l (k + 1)).1, .int .i64 (pt l (k + 1)).2], undef, undef, undef, undef, undef, undef, undef, undef], defers := [] } ∧ Has w [(g, [.int .i64 (pt l k).1, .int .i64 (pt l k).2, .int .i64 (pt l (k + 1)).1, .int .i64 (pt l (k + 1)).2]), (B, [.slice a l.length cap]), (G, [.slice ax qs.length capx]), (w.heap.size, [.slice a2 m.length cap2]), (w.heap.size + 1, [.bool false])] W ∧ RowP W (.slice ax qs.length capx) qs ∧ Hid (anyTo (crO l m qs) k = false))
     (fun k A W h g => ⟨h.1.later g, h.2.1.later g, h.2.2⟩) (fun c k A W h g => ⟨h.1, h.2.1.later g, h.2.2⟩) (fun k A h => ⟨h.1.fact (.head _) (i := 0) rfl, HU.out.later h.1.low⟩)
     (fun k A l o o' h hl ho hc => ⟨h.1.putObj (by omega) ho hc, h.2.1.putObj ho hc, h.2.2⟩) (fun c k A l o o' h hl ho hc => ⟨h.1, h.2.1.putObj (by omega) ho hc, h.2.2⟩)
     (fun k a' A l o o' h hl ho hc => by obtain ⟨g, e, hh, hx, hy⟩ := h; exact ⟨g, e, hh.putObj (by omega) ho hc, hx.putObj ho hc, hy⟩) ⟨C6, hx3, Lib.hid rfl⟩ ?assign ?body ?done ?stop
    case assign =>
     rintro _ k A T hk ⟨hI, hI2, hX⟩ hT
     generalize (pt l k).1 = x0 at *
     generalize (pt l k).2 = x1 at *
     generalize (pt l (k + 1)).1 = x2 at *
     generalize (pt l (k + 1)).2 = x3 at *
     gi_wp2_with fail
     have E := (HK.start (B := w7.heap.size) hI).push [.int .i64 x0, .int .i64 x1, .int .i64 x2, .int .i64 x3] 120
     exact hT _ _ E.k ⟨_, rfl, E.h, hI2.later ((Below.refl _ A).alloc (Nat.le_refl _) _), hX⟩
    case done =>
     rintro D A hD ⟨hI, hI2, hX⟩ hK
     have hr : r = false := HF.out.symm.trans hX.out
     subst hr
     have k0 := hI.tail.tail.tail.fact (.head _) (i := 0) rfl
     have f0 := hI.tail.tail.tail.free (.head _) (i := 0) rfl
     gi_wp2_with fail
     have X2 := hI.tail.tail.tail.set 0 (by simp) (.bool false)
     have hK2 := (keeps_set (B := 0) A ⟨w.heap.size + 1, 0, none⟩ (.bool false)).same D _ (Nat.zero_le _) hK rfl
     generalize A.setCell ⟨w.heap.size + 1, 0, none⟩ (.bool false) = A2 at *
     refine ⟨by simp, .inl ⟨_, _, rfl, run_takeDeferred hK2, ?_⟩⟩
     have X3 := X2.putObj (ob' := .deferred none) (by omega) hK2 rfl
     have d0 : (A2.putObj D (.deferred none)).cell? ⟨w.heap.size + 1, 0, none⟩ = some (.bool false) := X3.fact (.head _) (i := 0) rfl
     exact ⟨.bool false, by simp [results, Tryz.results60, go_sem, d0], by rw [HR.out], X3.low⟩
    case stop =>
     rintro D c k A hD hk ⟨rfl, hI, hX⟩ hK
     have hr : true = r := (anyTo_yes hX.out hk).trans HF.out
     subst hr
     gi_wp2_with fail
     refine ⟨by simp, .inl ⟨_, _, rfl, run_takeDeferred hK, ?_⟩⟩
     have X3 := hI.putObj (ob' := .deferred none) (by omega) hK rfl
     have d0 : (A.putObj D (.deferred none)).cell? ⟨w.heap.size + 1, 0, none⟩ = some (.bool true) := X3.fact (.head _) (i := 0) rfl
     exact ⟨.bool true, by simp [results, Tryz.results60, go_sem, d0], by rw [HR.out], X3.low⟩
    case body =>
     rintro lo k a' A hl ⟨r0, hr0⟩ ⟨gt, rfl, hI, hI2, hX⟩ hk
     generalize hy0 : (pt l k).1 = y0 at *
     generalize hy1 : (pt l k).2 = y1 at *
     generalize hy2 : (pt l (k + 1)).1 = y2 at *
     generalize hy3 : (pt l (k + 1)).2 = y3 at *
     have HY0 := Lib.hid hy0
     have HY1 := Lib.hid hy1
     have HY2 := Lib.hid hy2
     have HY3 := Lib.hid hy3
     clear hy0 hy1 hy2 hy3
     have k5 := hI.tail.tail.tail.fact (.head _) (i := 0) rfl
     gi_wp2_with fail
     refine ⟨trivial, (round_call (segs_hk2 (HK.start (B := 0) hI) (HV.out.later hI.low))).mono ?_⟩
     rintro e A1 ⟨⟨B2, rfl, E⟩, gA⟩
     have hI3 := hI2.later gA
     clear k5
     gi_wp2_with fail
     have hA1 : A.heap.size ≤ A1.heap.size := E.k.size
     have hwA : w.heap.size ≤ A1.heap.size := E.h.low.size
     refine range_sqN (l₀ := lo) (r₀ := r0) (K := m.length - 1) (enc := fun i => #[.int .i64 i, .agg #[.int .i64 (pt m i).1, .int .i64 (pt m i).2, .int .i64 (pt m (i + 1)).1, .int .i64 (pt m (i + 1)).2]]) (Lv := fun W => W.cell? ⟨B2, 0, none⟩ = some (.slice a2 m.length cap2) ∧ RowP W (.slice a2 m.length cap2) m) (w0 := w) (E.k.same lo _ (Nat.zero_le _) hr0 rfl) rfl (enters_of Tryz.func123 (by kernel_rfl) rfl) (seg_seq _ m (.slice a2 m.length cap2) B2 w) E.h.low (fun _ => rfl)
      (fun i W => HK w 0 A [(B2, [.slice a2 m.length cap2]), (gt, [.int .i64 y0, .int .i64 y1, .int .i64 y2, .int .i64 y3]), (B, [.slice a l.length cap]), (G, [.slice ax qs.length capx]), (w.heap.size, [.slice a2 m.length cap2]), (w.heap.size + 1, [.bool false])] W ∧ RowP W (.slice ax qs.length capx) qs ∧ Hid (anyTo (crI l m qs k) i = false))
      (fun c i W => c = .ret ∧ HK w 0 A [(w.heap.size + 1, [.bool true])] W ∧ Hid (crI l m qs k i = true))
      (fun i a' W => ∃ g, a' = { tmps := #[.slice a l.length cap, .slice a2 m.length cap2, undef, .pointer (some ⟨w.heap.size, 0, none⟩), .pointer (some ⟨w.heap.size + 1, 0, none⟩), .pointer (some ⟨G, 0, none⟩), undef, .pointer (some ⟨gt, 0, none⟩), undef, .pointer (some ⟨g, 0, none⟩), .slice a l.length cap, .bool true, .bool false, .bool false, .slice a2 m.length cap2, .bool true, .bool false, .bool false, .bool false, .slice a l.length cap, .slice a2 m.length cap2, .bool true, .bool false, .bool false, .slice a l.length cap, .slice a2 m.length cap2, .slice ax qs.length capx, .slice a l.length cap, .func (.func 123) #[] #[.pointer (some ⟨B, 0, none⟩)], .int .i64 (k : Int), .agg #[.int .i64 y0, .int .i64 y1, .int .i64 y2, .int .i64 y3], .slice a2 m.length cap2, .func (.func 123) #[] #[.pointer (some ⟨B2, 0, none⟩)], .int .i64 i, .agg #[.int .i64 (pt m i).1, .int .i64 (pt m i).2, .int .i64 (pt m (i + 1)).1, .int .i64 (pt m (i + 1)).2], undef, undef, undef, undef], defers := [] } ∧ HK w 0 A [(g, [.int .i64 (pt m i).1, .int .i64 (pt m i).2, .int .i64 (pt m (i + 1)).1, .int .i64 (pt m (i + 1)).2]), (B2, [.slice a2 m.length cap2]), (gt, [.int .i64 y0, .int .i64 y1, .int .i64 y2, .int .i64 y3]), (B, [.slice a l.length cap]), (G, [.slice ax qs.length capx]), (w.heap.size, [.slice a2 m.length cap2]), (w.heap.size + 1, [.bool false])] W ∧ RowP W (.slice ax qs.length capx) qs ∧ Hid (anyTo (crI l m qs k) i = false))
      (fun i A W h g => ⟨h.1.later g, h.2.1.later g, h.2.2⟩) (fun c i A W h g => ⟨h.1, h.2.1.later g, h.2.2⟩)
      (fun i A h => ⟨h.1.h.fact (.head _) (i := 0) rfl, HV.out.later h.1.h.low⟩)
      (fun i A l o o' h hl ho hc => ⟨h.1.putObj (by omega) (by omega) ho hc, h.2.1.putObj ho hc, h.2.2⟩)
      (fun c i A l o o' h hl ho hc => ⟨h.1, h.2.1.putObj (by omega) (by omega) ho hc, h.2.2⟩)
      (fun i a' A l o o' h hl ho hc => by obtain ⟨g, e, hh, hx, hy⟩ := h; exact ⟨g, e, hh.putObj (by omega) (by omega) ho hc, hx.putObj ho hc, hy⟩) ⟨E, hI3, Lib.hid rfl⟩ ?assign ?body ?done ?stop
     case assign =>
      rintro _ i A2 T hi ⟨hJ, hJ2, hX2⟩ hT
      generalize (pt m i).1 = x0 at *
      generalize (pt m i).2 = x1 at *
      generalize (pt m (i + 1)).1 = x2 at *
      generalize (pt m (i + 1)).2 = x3 at *
      gi_wp2_with fail
      have E3 := hJ.push [.int .i64 x0, .int .i64 x1, .int .i64 x2, .int .i64 x3] 120
      exact hT _ _ (keeps_grows ((Below.refl _ A2).alloc (Nat.le_refl _) _)) ⟨_, rfl, E3, hJ2.later ((Below.refl _ A2).alloc (Nat.le_refl _) _), hX2⟩
     case done =>
      rintro A2 ⟨hJ, hJ2, hX2⟩
      gi_wp2_with fail
      exact ⟨keeps_mono hJ.k (Nat.zero_le _), hJ.h.tail.tail, hJ2, Lib.hid (anyTo_no hX.out (by unfold crO; exact hX2.out))⟩
     case stop =>
      rintro c i A2 hi ⟨rfl, hJ, hX2⟩
      gi_wp2_with fail
      exact ⟨keeps_mono hJ.k (Nat.zero_le _), rfl, hJ.h, Lib.hid (by unfold crO; exact (anyTo_yes hX2.out hi).symm)⟩
     case body =>
      rintro l2 i a' A2 hl2 - ⟨gs, rfl, hJ, hJ2, hX2⟩ hi
      obtain ⟨q, hq⟩ : ∃ q, crI l m qs k i = q := ⟨_, rfl⟩
      have hm : mbP y0 y1 y2 y3 (pt m i).1 (pt m i).2 (pt m (i + 1)).1 (pt m (i + 1)).2 qs = q := by rw [← hq]; unfold crI; rw [HY0.out, HY1.out, HY2.out, HY3.out]
      generalize (pt m i).1 = x0 at *
      generalize (pt m i).2 = x1 at *
      generalize (pt m (i + 1)).1 = x2 at *
      generalize (pt m (i + 1)).2 = x3 at *
      have HM := Lib.hid hm
      have HQ := Lib.hid hq
      clear hm hq
      obtain ⟨k0, k1, k2, k3⟩ := hJ.h.one4
      obtain ⟨k4, k5, k6, k7⟩ := hJ.h.tail.tail.one4
      have k8 := hJ.h.tail.tail.tail.tail.fact (.head _) (i := 0) rfl
      gi_wp2_with fail
      refine ⟨trivial, (round_call (HK.call2 (HK.start (B := 0) hJ.h) (beside_is _ qs _ _ _ _ _ _ _ _ _ hJ2 _ HM.out))).mono ?_⟩
      rintro e A3 ⟨rfl, X1, gB⟩
      have RR := hJ2.later gB
      clear k0 k1 k2 k3 k4 k5 k6 k7 k8
      cases q
      ·gi_wp2_with fail
       exact ⟨keeps_mono X1.k (Nat.zero_le _), ⟨X1.h.tail, hJ.k.trans X1.k⟩, RR, Lib.hid (anyTo_no hX2.out HQ.out)⟩
      ·have k9 := X1.h.tail.tail.tail.tail.tail.tail.fact (.head _) (i := 0) rfl
       have f9 := X1.h.tail.tail.tail.tail.tail.tail.free (.head _) (i := 0) rfl
       gi_wp2_with fail
       have X3 := X1.tail.tail.tail.tail.tail.tail.set 0 (by simp) (.bool true)
       exact ⟨keeps_mono X3.k (Nat.zero_le _), rfl, ⟨X3.h, hJ.k.trans X3.k⟩, HQ⟩

end Go.Proofs.YtoaldbjcpfkcjaaGreat

namespace Go.Proofs.YtoaldbjcpfkcjaaGreat
open Go.RowKit Go.Lib

theorem RowP.cells0 {w : World} {b o n c : Nat} {ps : List (Int × Int)} (h : RowP w (.slice (some ⟨b, o, none⟩) n c) ps) {x y : Int} (hi : ps[0]? = some (x, y)) :
  w.cell? ⟨b, o, none⟩ = some (.int .i64 x) ∧ w.cell? ⟨b, o + 1, none⟩ = some (.int .i64 y) := by
 have := h.cells hi
 rwa [Nat.zero_mul, Nat.add_zero] at this
/-- How far the loop over the ends has come. -/
def EndI (f : Nat → Bool) (z : Value) : Prop := z = .int .i64 0 ∨ (z = .int .i64 1 ∧ f 0 = false) ∨ (z = .int .i64 2 ∧ f 0 = false ∧ f 1 = false)
theorem EndI.zero (f : Nat → Bool) : EndI f (.int .i64 0) := .inl rfl
theorem EndI.one {f : Nat → Bool} (h : f 0 = false) : EndI f (.int .i64 1) := .inr (.inl ⟨rfl, h⟩)
theorem EndI.two {f : Nat → Bool} (h : f 0 = false) (k : f 1 = false) : EndI f (.int .i64 2) := .inr (.inr ⟨rfl, h, k⟩)
/-- Whether a point is on two segments, and an end of a list. -/
def endQ (a0 a1 b0 b1 c0 c1 d0 d1 : Int) (q0 q1 : Int × Int) (p : Int × Int) : Bool := bothP a0 a1 b0 b1 c0 c1 d0 d1 p && (eqP p q0 || eqP p q1)
def endE (l : List (Int × Int)) (n : Nat) : Int × Int := if n = 0 then pt l 0 else pt l (l.length - 1)
def endR (l m : List (Int × Int)) (i k : Nat) : Bool := anyTo (fun n => endQ (pt l i).1 (pt l i).2 (pt l (i + 1)).1 (pt l (i + 1)).2 (pt m k).1 (pt m k).2 (pt m (k + 1)).1 (pt m (k + 1)).2 (pt m 0) (pt m (m.length - 1)) (endE l n)) 2

set_option linter.unusedSimpArgs false in
set_option maxRecDepth 100000 in
set_option maxHeartbeats 16000000 in
theorem rend_any (u v : Value) (l m : List (Int × Int)) (i k : Nat) (w : World) (hu : RowP w u l) (hv : RowP w v m) (hi : i + 1 < l.length) (hk : k + 1 < m.length) :
  Calls Tryz.prog 63 #[u, v, .int .i64 i, .int .i64 k] w fun e w' => e = .returned (.bool (endR l m i k)) ∧ Below w.heap.size w w' := by
 obtain ⟨f, hf⟩ : ∃ f : Nat → Bool, (fun n => endQ (pt l i).1 (pt l i).2 (pt l (i + 1)).1 (pt l (i + 1)).2 (pt m k).1 (pt m k).2 (pt m (k + 1)).1 (pt m (k + 1)).2 (pt m 0) (pt m (m.length - 1)) (endE l n)) = f := ⟨_, rfl⟩
 obtain ⟨r, hr⟩ : ∃ r, anyTo f 2 = r := ⟨_, rfl⟩
 have hR : endR l m i k = r := by unfold endR; rw [hf, hr]
 rw [hR]
 have hu0 := hu
 have hv0 := hv
 obtain ⟨a, cap, rfl, hc1, hc2, -⟩ := hu0
 obtain ⟨a2, cap2, rfl, hc3, hc4, -⟩ := hv0
 obtain ⟨b, o, rfl, -⟩ := hu.spot (by omega)
 obtain ⟨b2, o2, rfl, -⟩ := hv.spot (by omega)
 have p0 : l[i]? = some ((pt l i).1, (pt l i).2) := at_pt (by omega)
 have p1 : l[i + 1]? = some ((pt l (i + 1)).1, (pt l (i + 1)).2) := at_pt (by omega)
 have p2 : m[k]? = some ((pt m k).1, (pt m k).2) := at_pt (by omega)
 have p3 : m[k + 1]? = some ((pt m (k + 1)).1, (pt m (k + 1)).2) := at_pt (by omega)
 have p4 : l[0]? = some ((pt l 0).1, (pt l 0).2) := at_pt (by omega)
 have p5 : l[l.length - 1]? = some ((pt l (l.length - 1)).1, (pt l (l.length - 1)).2) := at_pt (by omega)
 have p6 : m[0]? = some ((pt m 0).1, (pt m 0).2) := at_pt (by omega)
 have p7 : m[m.length - 1]? = some ((pt m (m.length - 1)).1, (pt m (m.length - 1)).2) := at_pt (by omega)
 have hf0 : f 0 = endQ (pt l i).1 (pt l i).2 (pt l (i + 1)).1 (pt l (i + 1)).2 (pt m k).1 (pt m k).2 (pt m (k + 1)).1 (pt m (k + 1)).2 ((pt m 0).1, (pt m 0).2) ((pt m (m.length - 1)).1, (pt m (m.length - 1)).2) ((pt l 0).1, (pt l 0).2) := by rw [← hf]; rfl
 have hf1 : f 1 = endQ (pt l i).1 (pt l i).2 (pt l (i + 1)).1 (pt l (i + 1)).2 (pt m k).1 (pt m k).2 (pt m (k + 1)).1 (pt m (k + 1)).2 ((pt m 0).1, (pt m 0).2) ((pt m (m.length - 1)).1, (pt m (m.length - 1)).2) ((pt l (l.length - 1)).1, (pt l (l.length - 1)).2) := by rw [← hf]; rfl
 clear hf hR
 obtain ⟨s, hs⟩ : ∃ s, l.length = s + 1 := ⟨l.length - 1, by omega⟩
 obtain ⟨t, ht⟩ : ∃ t, m.length = t + 1 := ⟨m.length - 1, by omega⟩
 rw [hs, Nat.add_sub_cancel] at p5 hf1
 rw [ht, Nat.add_sub_cancel] at p7 hf0 hf1
 rw [hs] at hu hc1 hi ⊢
 rw [ht] at hv hc3 hk ⊢
 generalize (pt l i).1 = x0 at *
 generalize (pt l i).2 = x1 at *
 generalize (pt l (i + 1)).1 = x2 at *
 generalize (pt l (i + 1)).2 = x3 at *
 generalize (pt m k).1 = y0 at *
 generalize (pt m k).2 = y1 at *
 generalize (pt m (k + 1)).1 = y2 at *
 generalize (pt m (k + 1)).2 = y3 at *
 generalize (pt l 0).1 = e0 at *
 generalize (pt l 0).2 = e1 at *
 generalize (pt l s).1 = e2 at *
 generalize (pt l s).2 = e3 at *
 generalize (pt m 0).1 = m0 at *
 generalize (pt m 0).2 = m1 at *
 generalize (pt m t).1 = m2 at *
 generalize (pt m t).2 = m3 at *
 have HU := Lib.hid hu
 have HV := Lib.hid hv
 have HP0 := Lib.hid p0
 have HP1 := Lib.hid p1
 have HP2 := Lib.hid p2
 have HP3 := Lib.hid p3
 have HP4 := Lib.hid p4
 have HP5 := Lib.hid p5
 have HP6 := Lib.hid p6
 have HP7 := Lib.hid p7
 have HF0 := Lib.hid hf0
 have HF1 := Lib.hid hf1
 have HF := Lib.hid hr
 clear hu hv p0 p1 p2 p3 p4 p5 p6 p7 hf0 hf1 hr hs ht
 have is : IntKind.i64.wrap ((i : Int) + 1) = ((i + 1 : Nat) : Int) := by rw [IntWalk.i64_in _ (by omega)]; rfl
 have ks : IntKind.i64.wrap ((k : Int) + 1) = ((k + 1 : Nat) : Int) := by rw [IntWalk.i64_in _ (by omega)]; rfl
 have ss : IntKind.i64.wrap ((s : Int) + 1 - 1) = (s : Int) := by rw [IntWalk.i64_in _ (by omega)]; omega
 have ts : IntKind.i64.wrap ((t : Int) + 1 - 1) = (t : Int) := by rw [IntWalk.i64_in _ (by omega)]; omega
 have ss3 : IntKind.i64.wrap (s : Int) = (s : Int) := IntWalk.i64_in _ (by omega)
 have ts3 : IntKind.i64.wrap (t : Int) = (t : Int) := IntWalk.i64_in _ (by omega)
 have ss2 : ((s : Int) + 1 - 1) = (s : Int) := by omega
 have ts2 : ((t : Int) + 1 - 1) = (t : Int) := by omega
 have c1 : (i : Int) < s + 1 := by omega
 have c2 : (0 : Int) ≤ i := by omega
 have c3 : (i : Int) + 1 < s + 1 := by omega
 have c4 : (0 : Int) ≤ (i : Int) + 1 := by omega
 have c5 : ((i : Int) + 1).toNat = i + 1 := by omega
 have c6 : (k : Int) < t + 1 := by omega
 have c7 : (0 : Int) ≤ k := by omega
 have c8 : (k : Int) + 1 < t + 1 := by omega
 have c9 : (0 : Int) ≤ (k : Int) + 1 := by omega
 have d1 : ((k : Int) + 1).toNat = k + 1 := by omega
 have d2 : (0 : Int) < (s : Int) + 1 := by omega
 have d3 : (s : Int) < (s : Int) + 1 := by omega
 have d4 : (0 : Int) < (t : Int) + 1 := by omega
 have d5 : (t : Int) < (t : Int) + 1 := by omega
 have d6 : (0 : Int) ≤ s := by omega
 have d7 : (0 : Int) ≤ t := by omega
 go_enter Tryz.func63, Tryz.ntmps63
 go_upto_region 1 with fail
 have X0 := (Has.nil (Below.refl w.heap.size w)).drew
 have ms1 := Lib.hid (show ∀ w', Has w [] w' → (w'.cell? ⟨b, o, none⟩ = some (.int .i64 e0) ∧ w'.cell? ⟨b, o + 1, none⟩ = some (.int .i64 e1) ∧ w'.cell? ⟨b, o + s * 2, none⟩ = some (.int .i64 e2) ∧ w'.cell? ⟨b, o + s * 2 + 1, none⟩ = some (.int .i64 e3)) ∧ Has w [] w' from fun w' h => by
  have hRb := HU.out.later h.low
  exact ⟨⟨(RowP.cells0 hRb HP4.out).1, (RowP.cells0 hRb HP4.out).2, (hRb.cells HP5.out).1, (hRb.cells HP5.out).2⟩, h⟩)
 refine wp_region_held_drew (S := (fun w' => (w'.cell? ⟨b, o, none⟩ = some (.int .i64 e0) ∧ w'.cell? ⟨b, o + 1, none⟩ = some (.int .i64 e1) ∧ w'.cell? ⟨b, o + s * 2, none⟩ = some (.int .i64 e2) ∧ w'.cell? ⟨b, o + s * 2 + 1, none⟩ = some (.int .i64 e3)) ∧ Has w [] w')) (by kernel_rfl) (ms1.out _ X0) (fun hHeld => ?_)
 generalize w.drew = wd at *
 refine tbA [0, 1, 2, 3, 4, 5, 6, 7, 8, 9] ?_
 refine tkA (.slice (some ⟨b, o, none⟩) (s + 1) cap) (oi := ⟨some 14, .move (.tmp 0), 42, _, _, none⟩) ?_
 simp only [Act.put, pA, pB, pC]
 refine tkA (.pointer (some ⟨b, o, none⟩)) (oi := ⟨some 15, .indexAddr 42 (.tmp 14) (.const (.int .i64 0)), 0, _, _, none⟩) ?_
 simp only [Act.put, pA, pB, pC]
 refine tkA (.agg #[.int .i64 e0, .int .i64 e1]) (oi := ⟨some 16, .load 37 (.tmp 15), 37, _, _, none⟩) ?_
 simp only [Act.put, pA, pB, pC]
 refine tkA (.slice (some ⟨b, o, none⟩) (s + 1) cap) (oi := ⟨some 17, .move (.tmp 0), 42, _, _, none⟩) ?_
 simp only [Act.put, pA, pB, pC]
 refine tkA (.slice (some ⟨b, o, none⟩) (s + 1) cap) (oi := ⟨some 18, .move (.tmp 0), 42, _, _, none⟩) ?_
 simp only [Act.put, pA, pB, pC]
 refine tkA (.int .i64 ((s : Int) + 1)) (oi := ⟨some 19, .call { callee := .builtin .len, args := #[.tmp 18], argTypes := #[42] }, 3, _, _, none⟩) ?_
 simp only [Act.put, pA, pB, pC]
 refine tkA (.int .i64 s) (oi := ⟨some 20, .binOp .sub 3 (.tmp 19) (.const (.int .i64 1)) 3, 3, _, _, none⟩) ?_
 simp only [Act.put, pA, pB, pC]
 refine tkA (.pointer (some ⟨b, o + s * 2, none⟩)) (oi := ⟨some 21, .indexAddr 42 (.tmp 17) (.tmp 20), 0, _, _, none⟩) ?_
 simp only [Act.put, pA, pB, pC]
 refine tkA (.agg #[.int .i64 e2, .int .i64 e3]) (oi := ⟨some 22, .load 37 (.tmp 21), 37, _, _, none⟩) ?_
 simp only [Act.put, pA, pB, pC]
 refine tkA (.agg #[.int .i64 e0, .int .i64 e1, .int .i64 e2, .int .i64 e3]) (oi := ⟨some 23, .build 122 #[(0, .tmp 16), (1, .tmp 22)], 122, _, _, none⟩) ?_
 simp only [Act.put, pA, pB, pC]
 refine teA ?_
 refine tlA #[true, true, true, true, true, true, true, true, true, true, false, false] ?_
 refine trA [10] ?_
 refine AllReadyH.cons (o := ⟨some 9, .alloc 122, 0, _, _, none⟩) rfl (fun K hK => ?_) AllReadyH.nil
 go_simp
 have X1 := X0.push [.int .i64 0, .int .i64 0, .int .i64 0, .int .i64 0] 122
 change Has w _ (wd.alloc (.cells #[.int .i64 0, .int .i64 0, .int .i64 0, .int .i64 0] 122)) at X1
 generalize wd.alloc (.cells #[.int .i64 0, .int .i64 0, .int .i64 0, .int .i64 0] 122) = w1 at *
 generalize wd.heap.size = E at *
 clear hHeld
 refine hK.out _ _ (ms1.out _ X1.tail) (fun hHeld => ?_)
 clear hK K
 try simp only [pA, pB, pC]
 refine tlA #[true, true, true, true, true, true, true, true, true, true, true, false] ?_
 refine trA [11] ?_
 refine AllReadyH.cons (o := ⟨none, .store 122 (.tmp 9) (.tmp 23), 0, _, _, none⟩) rfl (fun K hK => ?_) AllReadyH.nil
 obtain ⟨k0, k1, k2, k3⟩ := X1.one4
 have f0 := X1.free (.head _) (i := 0) rfl
 have f1 := X1.free (.head _) (i := 1) rfl
 have f2 := X1.free (.head _) (i := 2) rfl
 have f3 := X1.free (.head _) (i := 3) rfl
 go_simp
 have X2 := X1.set4 (.int .i64 e0) (.int .i64 e1) (.int .i64 e2) (.int .i64 e3)
 generalize (((w1.setCell ⟨E, 0, none⟩ (.int .i64 e0)).setCell ⟨E, 1, none⟩ (.int .i64 e1)).setCell ⟨E, 2, none⟩ (.int .i64 e2)).setCell ⟨E, 3, none⟩ (.int .i64 e3) = w2 at *
 clear k0 k1 k2 k3 f0 f1 f2 f3
 clear hHeld
 refine hK.out _ _ (ms1.out _ X2.tail) (fun hHeld => ?_)
 clear hK K
 try simp only [pA, pB, pC]
 refine tlA #[true, true, true, true, true, true, true, true, true, true, true, true] ?_
 refine wpAnyH_done (by kernel_rfl) ?_ _
 clear hHeld
 clear ms1 X0 X1
 go_wp2_with fail
 go_loopw [10] (fun z wr => EndI f z ∧ Has w [(E, [.int .i64 e0, .int .i64 e1, .int .i64 e2, .int .i64 e3])] wr) (fun z _ => (2 - RowKit.intOf z).toNat)
 case atStart => exact ⟨EndI.zero f, X2⟩
 case round =>
  clear X2
  obtain ⟨hz, hI⟩ := hrel
  obtain ⟨k0, k1, k2, k3⟩ := hI.one4
  rcases hz with rfl | ⟨rfl, hp⟩ | ⟨rfl, hp, hq⟩
  ·have E2 := hI.push [.int .i64 e0, .int .i64 e1] 37
   change Has w _ (wr.alloc (.cells #[.int .i64 e0, .int .i64 e1] 37)) at E2
   go_wp2_with fail
   generalize wr.alloc (.cells #[.int .i64 e0, .int .i64 e1] 37) = w4 at *
   generalize wr.heap.size = G at *
   clear k0 k1 k2 k3 hI
   obtain ⟨ov1, ho1⟩ : ∃ v, onOf x0 x1 x2 x3 e0 e1 = v := ⟨_, rfl⟩
   obtain ⟨ov2, ho2⟩ : ∃ v, onOf y0 y1 y2 y3 e0 e1 = v := ⟨_, rfl⟩
   have hfn : f 0 = ((ov1 && ov2) && (eqP (e0, e1) (m0, m1) || eqP (e0, e1) (m2, m3))) := by rw [HF0.out]; unfold endQ bothP; rw [ho1, ho2]
   have HO1 := Lib.hid ho1
   have HO2 := Lib.hid ho2
   have HFN := Lib.hid hfn
   clear ho1 ho2 hfn
   have X0 := E2.drew
   have ms2 := Lib.hid (show ∀ w', Has w [(G, [.int .i64 e0, .int .i64 e1]), (E, [.int .i64 e0, .int .i64 e1, .int .i64 e2, .int .i64 e3])] w' → (w'.cell? ⟨b, o + i * 2, none⟩ = some (.int .i64 x0) ∧ w'.cell? ⟨b, o + i * 2 + 1, none⟩ = some (.int .i64 x1) ∧ w'.cell? ⟨b, o + (i + 1) * 2, none⟩ = some (.int .i64 x2) ∧ w'.cell? ⟨b, o + (i + 1) * 2 + 1, none⟩ = some (.int .i64 x3) ∧ w'.cell? ⟨G, 0, none⟩ = some (.int .i64 e0) ∧ w'.cell? ⟨G, 1, none⟩ = some (.int .i64 e1) ∧ w'.cell? ⟨E, 0, none⟩ = some (.int .i64 e0) ∧ w'.cell? ⟨E, 1, none⟩ = some (.int .i64 e1) ∧ w'.cell? ⟨E, 2, none⟩ = some (.int .i64 e2) ∧ w'.cell? ⟨E, 3, none⟩ = some (.int .i64 e3)) ∧ Has w [(G, [.int .i64 e0, .int .i64 e1]), (E, [.int .i64 e0, .int .i64 e1, .int .i64 e2, .int .i64 e3])] w' from fun w' h => by
    have hRb := HU.out.later h.low
    exact ⟨⟨(hRb.cells HP0.out).1, (hRb.cells HP0.out).2, (hRb.cells HP1.out).1, (hRb.cells HP1.out).2, h.fact (.head _) (i := 0) rfl, h.fact (.head _) (i := 1) rfl, h.tail.fact (.head _) (i := 0) rfl, h.tail.fact (.head _) (i := 1) rfl, h.tail.fact (.head _) (i := 2) rfl, h.tail.fact (.head _) (i := 3) rfl⟩, h⟩)
   refine wp_region_held_drew (S := (fun w' => (w'.cell? ⟨b, o + i * 2, none⟩ = some (.int .i64 x0) ∧ w'.cell? ⟨b, o + i * 2 + 1, none⟩ = some (.int .i64 x1) ∧ w'.cell? ⟨b, o + (i + 1) * 2, none⟩ = some (.int .i64 x2) ∧ w'.cell? ⟨b, o + (i + 1) * 2 + 1, none⟩ = some (.int .i64 x3) ∧ w'.cell? ⟨G, 0, none⟩ = some (.int .i64 e0) ∧ w'.cell? ⟨G, 1, none⟩ = some (.int .i64 e1) ∧ w'.cell? ⟨E, 0, none⟩ = some (.int .i64 e0) ∧ w'.cell? ⟨E, 1, none⟩ = some (.int .i64 e1) ∧ w'.cell? ⟨E, 2, none⟩ = some (.int .i64 e2) ∧ w'.cell? ⟨E, 3, none⟩ = some (.int .i64 e3)) ∧ Has w [(G, [.int .i64 e0, .int .i64 e1]), (E, [.int .i64 e0, .int .i64 e1, .int .i64 e2, .int .i64 e3])] w')) (by kernel_rfl) (ms2.out _ X0) (fun hHeld => ?_)
   refine tbA [0, 1, 2, 3, 4, 5, 6, 7, 8, 9] ?_
   refine tkA (.slice (some ⟨b, o, none⟩) (s + 1) cap) (oi := ⟨some 31, .move (.tmp 0), 42, _, _, none⟩) ?_
   simp only [Act.put, pA, pB, pC]
   refine tkA (.int .i64 i) (oi := ⟨some 32, .move (.tmp 2), 3, _, _, none⟩) ?_
   simp only [Act.put, pA, pB, pC]
   refine tkA (.pointer (some ⟨b, o + i * 2, none⟩)) (oi := ⟨some 33, .indexAddr 42 (.tmp 31) (.tmp 32), 0, _, _, none⟩) ?_
   simp only [Act.put, pA, pB, pC]
   refine tkA (.agg #[.int .i64 x0, .int .i64 x1]) (oi := ⟨some 34, .load 37 (.tmp 33), 37, _, _, none⟩) ?_
   simp only [Act.put, pA, pB, pC]
   refine tkA (.slice (some ⟨b, o, none⟩) (s + 1) cap) (oi := ⟨some 35, .move (.tmp 0), 42, _, _, none⟩) ?_
   simp only [Act.put, pA, pB, pC]
   refine tkA (.int .i64 i) (oi := ⟨some 36, .move (.tmp 2), 3, _, _, none⟩) ?_
   simp only [Act.put, pA, pB, pC]
   refine tkA (.int .i64 ((i : Int) + 1)) (oi := ⟨some 37, .binOp .add 3 (.tmp 36) (.const (.int .i64 1)) 3, 3, _, _, none⟩) ?_
   simp only [Act.put, pA, pB, pC]
   refine tkA (.pointer (some ⟨b, o + (i + 1) * 2, none⟩)) (oi := ⟨some 38, .indexAddr 42 (.tmp 35) (.tmp 37), 0, _, _, none⟩) ?_
   simp only [Act.put, pA, pB, pC]
   refine tkA (.agg #[.int .i64 x2, .int .i64 x3]) (oi := ⟨some 39, .load 37 (.tmp 38), 37, _, _, none⟩) ?_
   simp only [Act.put, pA, pB, pC]
   refine tkA (.agg #[.int .i64 e0, .int .i64 e1]) (oi := ⟨some 40, .load 37 (.tmp 11), 37, _, _, none⟩) ?_
   simp only [Act.put, pA, pB, pC]
   refine teA ?_
   refine tlA #[true, true, true, true, true, true, true, true, true, true, false, false] ?_
   refine trA [10] ?_
   refine AllReadyH.cons (o := ⟨some 41, .call { callee := .value (.func 77), args := #[.tmp 34, .tmp 39, .tmp 40], argTypes := #[37, 37, 37] }, 4, _, _, none⟩) rfl (fun K hK => ?_) AllReadyH.nil
   go_simp
   go_at_call 77
   refine (Has.call X0 (ron_is _ _ _ _ _ _ _ HO1.out _)).mono ?_
   rintro e w5 ⟨rfl, X1⟩
   go_wp2_with fail
   clear hHeld
   refine hK.out _ _ (ms2.out _ X1) (fun hHeld => ?_)
   clear hK K
   try simp only [pA, pB, pC]
   refine tlA #[true, true, true, true, true, true, true, true, true, true, true, false] ?_
   refine tbA [11] ?_
   refine tkA (.bool ov1) (oi := ⟨some 12, .assign (.tmp 41), 4, _, _, none⟩) ?_
   simp only [Act.put, pA, pB, pC]
   refine teA ?_
   refine tlA #[true, true, true, true, true, true, true, true, true, true, true, true] ?_
   refine wpAnyH_done (by kernel_rfl) ?_ _
   clear hHeld
   clear ms2 X0 E2
   go_wp2_with fail
   have X3 := X1.drew
   have ms3 := Lib.hid (show ∀ w', Has w [(G, [.int .i64 e0, .int .i64 e1]), (E, [.int .i64 e0, .int .i64 e1, .int .i64 e2, .int .i64 e3])] w' → (w'.cell? ⟨b2, o2 + k * 2, none⟩ = some (.int .i64 y0) ∧ w'.cell? ⟨b2, o2 + k * 2 + 1, none⟩ = some (.int .i64 y1) ∧ w'.cell? ⟨b2, o2 + (k + 1) * 2, none⟩ = some (.int .i64 y2) ∧ w'.cell? ⟨b2, o2 + (k + 1) * 2 + 1, none⟩ = some (.int .i64 y3) ∧ w'.cell? ⟨G, 0, none⟩ = some (.int .i64 e0) ∧ w'.cell? ⟨G, 1, none⟩ = some (.int .i64 e1) ∧ w'.cell? ⟨E, 0, none⟩ = some (.int .i64 e0) ∧ w'.cell? ⟨E, 1, none⟩ = some (.int .i64 e1) ∧ w'.cell? ⟨E, 2, none⟩ = some (.int .i64 e2) ∧ w'.cell? ⟨E, 3, none⟩ = some (.int .i64 e3)) ∧ Has w [(G, [.int .i64 e0, .int .i64 e1]), (E, [.int .i64 e0, .int .i64 e1, .int .i64 e2, .int .i64 e3])] w' from fun w' h => by
    have hRb2 := HV.out.later h.low
    exact ⟨⟨(hRb2.cells HP2.out).1, (hRb2.cells HP2.out).2, (hRb2.cells HP3.out).1, (hRb2.cells HP3.out).2, h.fact (.head _) (i := 0) rfl, h.fact (.head _) (i := 1) rfl, h.tail.fact (.head _) (i := 0) rfl, h.tail.fact (.head _) (i := 1) rfl, h.tail.fact (.head _) (i := 2) rfl, h.tail.fact (.head _) (i := 3) rfl⟩, h⟩)
   refine wp_region_held_drew (S := (fun w' => (w'.cell? ⟨b2, o2 + k * 2, none⟩ = some (.int .i64 y0) ∧ w'.cell? ⟨b2, o2 + k * 2 + 1, none⟩ = some (.int .i64 y1) ∧ w'.cell? ⟨b2, o2 + (k + 1) * 2, none⟩ = some (.int .i64 y2) ∧ w'.cell? ⟨b2, o2 + (k + 1) * 2 + 1, none⟩ = some (.int .i64 y3) ∧ w'.cell? ⟨G, 0, none⟩ = some (.int .i64 e0) ∧ w'.cell? ⟨G, 1, none⟩ = some (.int .i64 e1) ∧ w'.cell? ⟨E, 0, none⟩ = some (.int .i64 e0) ∧ w'.cell? ⟨E, 1, none⟩ = some (.int .i64 e1) ∧ w'.cell? ⟨E, 2, none⟩ = some (.int .i64 e2) ∧ w'.cell? ⟨E, 3, none⟩ = some (.int .i64 e3)) ∧ Has w [(G, [.int .i64 e0, .int .i64 e1]), (E, [.int .i64 e0, .int .i64 e1, .int .i64 e2, .int .i64 e3])] w')) (by kernel_rfl) (ms3.out _ X3) (fun hHeld => ?_)
   refine tbA [0, 1, 2, 3, 4, 5, 6, 7, 8, 9] ?_
   refine tkA (.slice (some ⟨b2, o2, none⟩) (t + 1) cap2) (oi := ⟨some 42, .move (.tmp 1), 42, _, _, none⟩) ?_
   simp only [Act.put, pA, pB, pC]
   refine tkA (.int .i64 k) (oi := ⟨some 43, .move (.tmp 3), 3, _, _, none⟩) ?_
   simp only [Act.put, pA, pB, pC]
   refine tkA (.pointer (some ⟨b2, o2 + k * 2, none⟩)) (oi := ⟨some 44, .indexAddr 42 (.tmp 42) (.tmp 43), 0, _, _, none⟩) ?_
   simp only [Act.put, pA, pB, pC]
   refine tkA (.agg #[.int .i64 y0, .int .i64 y1]) (oi := ⟨some 45, .load 37 (.tmp 44), 37, _, _, none⟩) ?_
   simp only [Act.put, pA, pB, pC]
   refine tkA (.slice (some ⟨b2, o2, none⟩) (t + 1) cap2) (oi := ⟨some 46, .move (.tmp 1), 42, _, _, none⟩) ?_
   simp only [Act.put, pA, pB, pC]
   refine tkA (.int .i64 k) (oi := ⟨some 47, .move (.tmp 3), 3, _, _, none⟩) ?_
   simp only [Act.put, pA, pB, pC]
   refine tkA (.int .i64 ((k : Int) + 1)) (oi := ⟨some 48, .binOp .add 3 (.tmp 47) (.const (.int .i64 1)) 3, 3, _, _, none⟩) ?_
   simp only [Act.put, pA, pB, pC]
   refine tkA (.pointer (some ⟨b2, o2 + (k + 1) * 2, none⟩)) (oi := ⟨some 49, .indexAddr 42 (.tmp 46) (.tmp 48), 0, _, _, none⟩) ?_
   simp only [Act.put, pA, pB, pC]
   refine tkA (.agg #[.int .i64 y2, .int .i64 y3]) (oi := ⟨some 50, .load 37 (.tmp 49), 37, _, _, none⟩) ?_
   simp only [Act.put, pA, pB, pC]
   refine tkA (.agg #[.int .i64 e0, .int .i64 e1]) (oi := ⟨some 51, .load 37 (.tmp 11), 37, _, _, none⟩) ?_
   simp only [Act.put, pA, pB, pC]
   refine teA ?_
   refine tlA #[true, true, true, true, true, true, true, true, true, true, false, false] ?_
   refine trA [10] ?_
   refine AllReadyH.cons (o := ⟨some 52, .call { callee := .value (.func 77), args := #[.tmp 45, .tmp 50, .tmp 51], argTypes := #[37, 37, 37] }, 4, _, _, none⟩) rfl (fun K hK => ?_) AllReadyH.nil
   go_simp
   go_at_call 77
   refine (Has.call X3 (ron_is _ _ _ _ _ _ _ HO2.out _)).mono ?_
   rintro e w6 ⟨rfl, X4⟩
   go_wp2_with fail
   clear hHeld
   refine hK.out _ _ (ms3.out _ X4) (fun hHeld => ?_)
   clear hK K
   try simp only [pA, pB, pC]
   refine tlA #[true, true, true, true, true, true, true, true, true, true, true, false] ?_
   refine tbA [11] ?_
   refine tkA (.bool ov2) (oi := ⟨some 13, .assign (.tmp 52), 4, _, _, none⟩) ?_
   simp only [Act.put, pA, pB, pC]
   refine teA ?_
   refine tlA #[true, true, true, true, true, true, true, true, true, true, true, true] ?_
   refine wpAnyH_done (by kernel_rfl) ?_ _
   clear hHeld
   clear ms3 X3 X1
   have hV6 := HV.out.later X4.low
   obtain ⟨c10, c11⟩ := RowP.cells0 hV6 HP6.out
   obtain ⟨c12, c13⟩ := hV6.cells HP7.out
   obtain ⟨k0, k1⟩ := X4.pt
   clear hV6
   cases ov1
   ·have HN := Lib.hid (show f 0 = false by rw [HFN.out]; rfl)
    go_wp2_with fail
    go_region
    go_wp2_with fail
    go_roundw
    case rel => exact ⟨EndI.one HN.out, X4.drew.tail⟩
    case measure => simp [RowKit.intOf]
   ·cases ov2
    ·have HN := Lib.hid (show f 0 = false by rw [HFN.out]; rfl)
     go_wp2_with fail
     go_region
     go_wp2_with fail
     go_roundw
     case rel => exact ⟨EndI.one HN.out, X4.drew.tail⟩
     case measure => simp [RowKit.intOf]
    ·rcases eq3 e0 e1 m0 m1 with ⟨e1', e2', e3'⟩ | ⟨e1', e2', e3'⟩ | ⟨e1', e3'⟩
     ·have HN := Lib.hid (show f 0 = true by rw [HFN.out]; unfold eqP; rw [e3']; rfl)
      clear e3'
      go_wp2_with fail
      go_region
      go_wp2_with fail
      go_ret
      exact ⟨ret_b ((anyTo_yes (f := f) (k := 0) (n := 2) HN.out (by omega)).trans HF.out), X4.drew.low⟩
     all_goals
      rcases eq3 e0 e1 m2 m3 with ⟨g1', g2', g3'⟩ | ⟨g1', g2', g3'⟩ | ⟨g1', g3'⟩
      ·have HN := Lib.hid (show f 0 = true by rw [HFN.out]; unfold eqP; rw [e3', g3']; rfl)
       clear e3' g3'
       go_wp2_with fail
       go_region
       go_wp2_with fail
       go_ret
       exact ⟨ret_b ((anyTo_yes (f := f) (k := 0) (n := 2) HN.out (by omega)).trans HF.out), X4.drew.low⟩
      all_goals
       have HN := Lib.hid (show f 0 = false by rw [HFN.out]; unfold eqP; rw [e3', g3']; rfl)
       clear e3' g3'
       go_wp2_with fail
       go_region
       go_wp2_with fail
       go_roundw
       case rel => exact ⟨EndI.one HN.out, X4.drew.tail⟩
       case measure => simp [RowKit.intOf]
  ·have HPREV := Lib.hid hp
   clear hp
   have E2 := hI.push [.int .i64 e2, .int .i64 e3] 37
   change Has w _ (wr.alloc (.cells #[.int .i64 e2, .int .i64 e3] 37)) at E2
   go_wp2_with fail
   generalize wr.alloc (.cells #[.int .i64 e2, .int .i64 e3] 37) = w4 at *
   generalize wr.heap.size = G at *
   clear k0 k1 k2 k3 hI
   obtain ⟨ov1, ho1⟩ : ∃ v, onOf x0 x1 x2 x3 e2 e3 = v := ⟨_, rfl⟩
   obtain ⟨ov2, ho2⟩ : ∃ v, onOf y0 y1 y2 y3 e2 e3 = v := ⟨_, rfl⟩
   have hfn : f 1 = ((ov1 && ov2) && (eqP (e2, e3) (m0, m1) || eqP (e2, e3) (m2, m3))) := by rw [HF1.out]; unfold endQ bothP; rw [ho1, ho2]
   have HO1 := Lib.hid ho1
   have HO2 := Lib.hid ho2
   have HFN := Lib.hid hfn
   clear ho1 ho2 hfn
   have X0 := E2.drew
   have ms2 := Lib.hid (show ∀ w', Has w [(G, [.int .i64 e2, .int .i64 e3]), (E, [.int .i64 e0, .int .i64 e1, .int .i64 e2, .int .i64 e3])] w' → (w'.cell? ⟨b, o + i * 2, none⟩ = some (.int .i64 x0) ∧ w'.cell? ⟨b, o + i * 2 + 1, none⟩ = some (.int .i64 x1) ∧ w'.cell? ⟨b, o + (i + 1) * 2, none⟩ = some (.int .i64 x2) ∧ w'.cell? ⟨b, o + (i + 1) * 2 + 1, none⟩ = some (.int .i64 x3) ∧ w'.cell? ⟨G, 0, none⟩ = some (.int .i64 e2) ∧ w'.cell? ⟨G, 1, none⟩ = some (.int .i64 e3) ∧ w'.cell? ⟨E, 0, none⟩ = some (.int .i64 e0) ∧ w'.cell? ⟨E, 1, none⟩ = some (.int .i64 e1) ∧ w'.cell? ⟨E, 2, none⟩ = some (.int .i64 e2) ∧ w'.cell? ⟨E, 3, none⟩ = some (.int .i64 e3)) ∧ Has w [(G, [.int .i64 e2, .int .i64 e3]), (E, [.int .i64 e0, .int .i64 e1, .int .i64 e2, .int .i64 e3])] w' from fun w' h => by
    have hRb := HU.out.later h.low
    exact ⟨⟨(hRb.cells HP0.out).1, (hRb.cells HP0.out).2, (hRb.cells HP1.out).1, (hRb.cells HP1.out).2, h.fact (.head _) (i := 0) rfl, h.fact (.head _) (i := 1) rfl, h.tail.fact (.head _) (i := 0) rfl, h.tail.fact (.head _) (i := 1) rfl, h.tail.fact (.head _) (i := 2) rfl, h.tail.fact (.head _) (i := 3) rfl⟩, h⟩)
   refine wp_region_held_drew (S := (fun w' => (w'.cell? ⟨b, o + i * 2, none⟩ = some (.int .i64 x0) ∧ w'.cell? ⟨b, o + i * 2 + 1, none⟩ = some (.int .i64 x1) ∧ w'.cell? ⟨b, o + (i + 1) * 2, none⟩ = some (.int .i64 x2) ∧ w'.cell? ⟨b, o + (i + 1) * 2 + 1, none⟩ = some (.int .i64 x3) ∧ w'.cell? ⟨G, 0, none⟩ = some (.int .i64 e2) ∧ w'.cell? ⟨G, 1, none⟩ = some (.int .i64 e3) ∧ w'.cell? ⟨E, 0, none⟩ = some (.int .i64 e0) ∧ w'.cell? ⟨E, 1, none⟩ = some (.int .i64 e1) ∧ w'.cell? ⟨E, 2, none⟩ = some (.int .i64 e2) ∧ w'.cell? ⟨E, 3, none⟩ = some (.int .i64 e3)) ∧ Has w [(G, [.int .i64 e2, .int .i64 e3]), (E, [.int .i64 e0, .int .i64 e1, .int .i64 e2, .int .i64 e3])] w')) (by kernel_rfl) (ms2.out _ X0) (fun hHeld => ?_)
   refine tbA [0, 1, 2, 3, 4, 5, 6, 7, 8, 9] ?_
   refine tkA (.slice (some ⟨b, o, none⟩) (s + 1) cap) (oi := ⟨some 31, .move (.tmp 0), 42, _, _, none⟩) ?_
   simp only [Act.put, pA, pB, pC]
   refine tkA (.int .i64 i) (oi := ⟨some 32, .move (.tmp 2), 3, _, _, none⟩) ?_
   simp only [Act.put, pA, pB, pC]
   refine tkA (.pointer (some ⟨b, o + i * 2, none⟩)) (oi := ⟨some 33, .indexAddr 42 (.tmp 31) (.tmp 32), 0, _, _, none⟩) ?_
   simp only [Act.put, pA, pB, pC]
   refine tkA (.agg #[.int .i64 x0, .int .i64 x1]) (oi := ⟨some 34, .load 37 (.tmp 33), 37, _, _, none⟩) ?_
   simp only [Act.put, pA, pB, pC]
   refine tkA (.slice (some ⟨b, o, none⟩) (s + 1) cap) (oi := ⟨some 35, .move (.tmp 0), 42, _, _, none⟩) ?_
   simp only [Act.put, pA, pB, pC]
   refine tkA (.int .i64 i) (oi := ⟨some 36, .move (.tmp 2), 3, _, _, none⟩) ?_
   simp only [Act.put, pA, pB, pC]
   refine tkA (.int .i64 ((i : Int) + 1)) (oi := ⟨some 37, .binOp .add 3 (.tmp 36) (.const (.int .i64 1)) 3, 3, _, _, none⟩) ?_
   simp only [Act.put, pA, pB, pC]
   refine tkA (.pointer (some ⟨b, o + (i + 1) * 2, none⟩)) (oi := ⟨some 38, .indexAddr 42 (.tmp 35) (.tmp 37), 0, _, _, none⟩) ?_
   simp only [Act.put, pA, pB, pC]
   refine tkA (.agg #[.int .i64 x2, .int .i64 x3]) (oi := ⟨some 39, .load 37 (.tmp 38), 37, _, _, none⟩) ?_
   simp only [Act.put, pA, pB, pC]
   refine tkA (.agg #[.int .i64 e2, .int .i64 e3]) (oi := ⟨some 40, .load 37 (.tmp 11), 37, _, _, none⟩) ?_
   simp only [Act.put, pA, pB, pC]
   refine teA ?_
   refine tlA #[true, true, true, true, true, true, true, true, true, true, false, false] ?_
   refine trA [10] ?_
   refine AllReadyH.cons (o := ⟨some 41, .call { callee := .value (.func 77), args := #[.tmp 34, .tmp 39, .tmp 40], argTypes := #[37, 37, 37] }, 4, _, _, none⟩) rfl (fun K hK => ?_) AllReadyH.nil
   go_simp
   go_at_call 77
   refine (Has.call X0 (ron_is _ _ _ _ _ _ _ HO1.out _)).mono ?_
   rintro e w5 ⟨rfl, X1⟩
   go_wp2_with fail
   clear hHeld
   refine hK.out _ _ (ms2.out _ X1) (fun hHeld => ?_)
   clear hK K
   try simp only [pA, pB, pC]
   refine tlA #[true, true, true, true, true, true, true, true, true, true, true, false] ?_
   refine tbA [11] ?_
   refine tkA (.bool ov1) (oi := ⟨some 12, .assign (.tmp 41), 4, _, _, none⟩) ?_
   simp only [Act.put, pA, pB, pC]
   refine teA ?_
   refine tlA #[true, true, true, true, true, true, true, true, true, true, true, true] ?_
   refine wpAnyH_done (by kernel_rfl) ?_ _
   clear hHeld
   clear ms2 X0 E2
   go_wp2_with fail
   have X3 := X1.drew
   have ms3 := Lib.hid (show ∀ w', Has w [(G, [.int .i64 e2, .int .i64 e3]), (E, [.int .i64 e0, .int .i64 e1, .int .i64 e2, .int .i64 e3])] w' → (w'.cell? ⟨b2, o2 + k * 2, none⟩ = some (.int .i64 y0) ∧ w'.cell? ⟨b2, o2 + k * 2 + 1, none⟩ = some (.int .i64 y1) ∧ w'.cell? ⟨b2, o2 + (k + 1) * 2, none⟩ = some (.int .i64 y2) ∧ w'.cell? ⟨b2, o2 + (k + 1) * 2 + 1, none⟩ = some (.int .i64 y3) ∧ w'.cell? ⟨G, 0, none⟩ = some (.int .i64 e2) ∧ w'.cell? ⟨G, 1, none⟩ = some (.int .i64 e3) ∧ w'.cell? ⟨E, 0, none⟩ = some (.int .i64 e0) ∧ w'.cell? ⟨E, 1, none⟩ = some (.int .i64 e1) ∧ w'.cell? ⟨E, 2, none⟩ = some (.int .i64 e2) ∧ w'.cell? ⟨E, 3, none⟩ = some (.int .i64 e3)) ∧ Has w [(G, [.int .i64 e2, .int .i64 e3]), (E, [.int .i64 e0, .int .i64 e1, .int .i64 e2, .int .i64 e3])] w' from fun w' h => by
    have hRb2 := HV.out.later h.low
    exact ⟨⟨(hRb2.cells HP2.out).1, (hRb2.cells HP2.out).2, (hRb2.cells HP3.out).1, (hRb2.cells HP3.out).2, h.fact (.head _) (i := 0) rfl, h.fact (.head _) (i := 1) rfl, h.tail.fact (.head _) (i := 0) rfl, h.tail.fact (.head _) (i := 1) rfl, h.tail.fact (.head _) (i := 2) rfl, h.tail.fact (.head _) (i := 3) rfl⟩, h⟩)
   refine wp_region_held_drew (S := (fun w' => (w'.cell? ⟨b2, o2 + k * 2, none⟩ = some (.int .i64 y0) ∧ w'.cell? ⟨b2, o2 + k * 2 + 1, none⟩ = some (.int .i64 y1) ∧ w'.cell? ⟨b2, o2 + (k + 1) * 2, none⟩ = some (.int .i64 y2) ∧ w'.cell? ⟨b2, o2 + (k + 1) * 2 + 1, none⟩ = some (.int .i64 y3) ∧ w'.cell? ⟨G, 0, none⟩ = some (.int .i64 e2) ∧ w'.cell? ⟨G, 1, none⟩ = some (.int .i64 e3) ∧ w'.cell? ⟨E, 0, none⟩ = some (.int .i64 e0) ∧ w'.cell? ⟨E, 1, none⟩ = some (.int .i64 e1) ∧ w'.cell? ⟨E, 2, none⟩ = some (.int .i64 e2) ∧ w'.cell? ⟨E, 3, none⟩ = some (.int .i64 e3)) ∧ Has w [(G, [.int .i64 e2, .int .i64 e3]), (E, [.int .i64 e0, .int .i64 e1, .int .i64 e2, .int .i64 e3])] w')) (by kernel_rfl) (ms3.out _ X3) (fun hHeld => ?_)
   refine tbA [0, 1, 2, 3, 4, 5, 6, 7, 8, 9] ?_
   refine tkA (.slice (some ⟨b2, o2, none⟩) (t + 1) cap2) (oi := ⟨some 42, .move (.tmp 1), 42, _, _, none⟩) ?_
   simp only [Act.put, pA, pB, pC]
   refine tkA (.int .i64 k) (oi := ⟨some 43, .move (.tmp 3), 3, _, _, none⟩) ?_
   simp only [Act.put, pA, pB, pC]
   refine tkA (.pointer (some ⟨b2, o2 + k * 2, none⟩)) (oi := ⟨some 44, .indexAddr 42 (.tmp 42) (.tmp 43), 0, _, _, none⟩) ?_
   simp only [Act.put, pA, pB, pC]
   refine tkA (.agg #[.int .i64 y0, .int .i64 y1]) (oi := ⟨some 45, .load 37 (.tmp 44), 37, _, _, none⟩) ?_
   simp only [Act.put, pA, pB, pC]
   refine tkA (.slice (some ⟨b2, o2, none⟩) (t + 1) cap2) (oi := ⟨some 46, .move (.tmp 1), 42, _, _, none⟩) ?_
   simp only [Act.put, pA, pB, pC]
   refine tkA (.int .i64 k) (oi := ⟨some 47, .move (.tmp 3), 3, _, _, none⟩) ?_
   simp only [Act.put, pA, pB, pC]
   refine tkA (.int .i64 ((k : Int) + 1)) (oi := ⟨some 48, .binOp .add 3 (.tmp 47) (.const (.int .i64 1)) 3, 3, _, _, none⟩) ?_
   simp only [Act.put, pA, pB, pC]
   refine tkA (.pointer (some ⟨b2, o2 + (k + 1) * 2, none⟩)) (oi := ⟨some 49, .indexAddr 42 (.tmp 46) (.tmp 48), 0, _, _, none⟩) ?_
   simp only [Act.put, pA, pB, pC]
   refine tkA (.agg #[.int .i64 y2, .int .i64 y3]) (oi := ⟨some 50, .load 37 (.tmp 49), 37, _, _, none⟩) ?_
   simp only [Act.put, pA, pB, pC]
   refine tkA (.agg #[.int .i64 e2, .int .i64 e3]) (oi := ⟨some 51, .load 37 (.tmp 11), 37, _, _, none⟩) ?_
   simp only [Act.put, pA, pB, pC]
   refine teA ?_
   refine tlA #[true, true, true, true, true, true, true, true, true, true, false, false] ?_
   refine trA [10] ?_
   refine AllReadyH.cons (o := ⟨some 52, .call { callee := .value (.func 77), args := #[.tmp 45, .tmp 50, .tmp 51], argTypes := #[37, 37, 37] }, 4, _, _, none⟩) rfl (fun K hK => ?_) AllReadyH.nil
   go_simp
   go_at_call 77
   refine (Has.call X3 (ron_is _ _ _ _ _ _ _ HO2.out _)).mono ?_
   rintro e w6 ⟨rfl, X4⟩
   go_wp2_with fail
   clear hHeld
   refine hK.out _ _ (ms3.out _ X4) (fun hHeld => ?_)
   clear hK K
   try simp only [pA, pB, pC]
   refine tlA #[true, true, true, true, true, true, true, true, true, true, true, false] ?_
   refine tbA [11] ?_
   refine tkA (.bool ov2) (oi := ⟨some 13, .assign (.tmp 52), 4, _, _, none⟩) ?_
   simp only [Act.put, pA, pB, pC]
   refine teA ?_
   refine tlA #[true, true, true, true, true, true, true, true, true, true, true, true] ?_
   refine wpAnyH_done (by kernel_rfl) ?_ _
   clear hHeld
   clear ms3 X3 X1
   have hV6 := HV.out.later X4.low
   obtain ⟨c10, c11⟩ := RowP.cells0 hV6 HP6.out
   obtain ⟨c12, c13⟩ := hV6.cells HP7.out
   obtain ⟨k0, k1⟩ := X4.pt
   clear hV6
   cases ov1
   ·have HN := Lib.hid (show f 1 = false by rw [HFN.out]; rfl)
    go_wp2_with fail
    go_region
    go_wp2_with fail
    go_roundw
    case rel => exact ⟨EndI.two HPREV.out HN.out, X4.drew.tail⟩
    case measure => simp [RowKit.intOf]
   ·cases ov2
    ·have HN := Lib.hid (show f 1 = false by rw [HFN.out]; rfl)
     go_wp2_with fail
     go_region
     go_wp2_with fail
     go_roundw
     case rel => exact ⟨EndI.two HPREV.out HN.out, X4.drew.tail⟩
     case measure => simp [RowKit.intOf]
    ·rcases eq3 e2 e3 m0 m1 with ⟨e1', e2', e3'⟩ | ⟨e1', e2', e3'⟩ | ⟨e1', e3'⟩
     ·have HN := Lib.hid (show f 1 = true by rw [HFN.out]; unfold eqP; rw [e3']; rfl)
      clear e3'
      go_wp2_with fail
      go_region
      go_wp2_with fail
      go_ret
      exact ⟨ret_b ((anyTo_yes (f := f) (k := 1) (n := 2) HN.out (by omega)).trans HF.out), X4.drew.low⟩
     all_goals
      rcases eq3 e2 e3 m2 m3 with ⟨g1', g2', g3'⟩ | ⟨g1', g2', g3'⟩ | ⟨g1', g3'⟩
      ·have HN := Lib.hid (show f 1 = true by rw [HFN.out]; unfold eqP; rw [e3', g3']; rfl)
       clear e3' g3'
       go_wp2_with fail
       go_region
       go_wp2_with fail
       go_ret
       exact ⟨ret_b ((anyTo_yes (f := f) (k := 1) (n := 2) HN.out (by omega)).trans HF.out), X4.drew.low⟩
      all_goals
       have HN := Lib.hid (show f 1 = false by rw [HFN.out]; unfold eqP; rw [e3', g3']; rfl)
       clear e3' g3'
       go_wp2_with fail
       go_region
       go_wp2_with fail
       go_roundw
       case rel => exact ⟨EndI.two HPREV.out HN.out, X4.drew.tail⟩
       case measure => simp [RowKit.intOf]
  ·have HN := Lib.hid (show anyTo f 2 = false by rw [anyTo, anyTo, anyTo, hp, hq]; rfl)
   clear hp hq
   go_wp2_with fail
   go_ret
   exact ⟨ret_b (HN.out.symm.trans HF.out), hI.low⟩

end Go.Proofs.YtoaldbjcpfkcjaaGreat

namespace Go.Proofs.YtoaldbjcpfkcjaaGreat
open Go.RowKit Go.Lib

def rcX (l m : List (Int × Int)) (i j : Nat) : Int := meetOf (pt l i).1 (pt l i).2 (pt l (i + 1)).1 (pt l (i + 1)).2 (pt m j).1 (pt m j).2 (pt m (j + 1)).1 (pt m (j + 1)).2
def rcI (l m : List (Int × Int)) (i j : Nat) : Bool := decide (rcX l m i j = 2) || (decide (rcX l m i j = 1) && !endR l m i j)
def rcO (l m : List (Int × Int)) (i : Nat) : Bool := anyTo (rcI l m i) (m.length - 1)
def rcrossP (l m : List (Int × Int)) : Bool := l.all rtP && (m.all rtP && anyTo (rcO l m) (l.length - 1))
theorem rend_is (u v : Value) (l m : List (Int × Int)) (i k : Nat) (w : World) (hu : RowP w u l) (hv : RowP w v m) (hi : i + 1 < l.length) (hk : k + 1 < m.length) (r : Bool) (h : endR l m i k = r) :
  Calls Tryz.prog 63 #[u, v, .int .i64 i, .int .i64 k] w fun e w' => e = .returned (.bool r) ∧ Below w.heap.size w w' := h ▸ rend_any u v l m i k w hu hv hi hk

set_option linter.unusedSimpArgs false in
set_option maxRecDepth 100000 in
set_option maxHeartbeats 16000000 in
theorem rcrosses_any (u v : Value) (l m : List (Int × Int)) (w : World) (hu : RowP w u l) (hv : RowP w v m) :
  Calls Tryz.prog 35 #[u, v] w fun e w' => e = .returned (.bool (rcrossP l m)) ∧ Below w.heap.size w w' := by
 have hu0 := hu
 have hv0 := hv
 obtain ⟨a, cap, rfl, hc1, hc2, -⟩ := hu0
 obtain ⟨a2, cap2, rfl, hc3, hc4, -⟩ := hv0
 cases h1 : l.all rtP
 ·have HR := Lib.hid (show rcrossP l m = false by unfold rcrossP; rw [h1]; rfl)
  have HU := Lib.hid hu
  have H1 := Lib.hid h1
  clear h1 hu hv
  go_enter Tryz.func35, Tryz.ntmps35
  go_wp2_with fail
  refine (fine_is _ l w HU.out _ H1.out).mono ?_
  rintro e w1 ⟨rfl, g1⟩
  go_wp2_with fail
  go_ret
  exact ⟨ret_b HR.out.symm, g1⟩
 ·cases h2 : m.all rtP
  ·have HR := Lib.hid (show rcrossP l m = false by unfold rcrossP; rw [h1, h2]; rfl)
   have HU := Lib.hid hu
   have HV := Lib.hid hv
   have H1 := Lib.hid h1
   have H2 := Lib.hid h2
   clear h1 h2 hu hv
   go_enter Tryz.func35, Tryz.ntmps35
   go_wp2_with fail
   refine (fine_is _ l w HU.out _ H1.out).mono ?_
   rintro e w1 ⟨rfl, g1⟩
   go_wp2_with fail
   refine (fine_is _ m w1 (HV.out.later g1) _ H2.out).mono ?_
   rintro e w2 ⟨rfl, g2⟩
   go_wp2_with fail
   go_ret
   exact ⟨ret_b HR.out.symm, Grows.then g1 g2⟩
  ·obtain ⟨r, hr⟩ : ∃ r, anyTo (rcO l m) (l.length - 1) = r := ⟨_, rfl⟩
   have hR : rcrossP l m = r := by unfold rcrossP; rw [h1, h2, hr]; rfl
   rw [hR]
   obtain ⟨s, hs⟩ : ∃ s, l.length = s := ⟨_, rfl⟩
   obtain ⟨t, ht⟩ : ∃ s, m.length = s := ⟨_, rfl⟩
   have hO : ∀ i, rcO l m i = anyTo (rcI l m i) (t - 1) := fun i => by unfold rcO; rw [ht]
   rw [hs] at hu hc1 hr ⊢
   rw [ht] at hv hc3 ⊢
   have HU := Lib.hid hu
   have HV := Lib.hid hv
   have H1 := Lib.hid h1
   have H2 := Lib.hid h2
   have HF := Lib.hid hr
   have HS := Lib.hid hs
   have HT := Lib.hid ht
   have HO := Lib.hid hO
   clear h1 h2 hr hs ht hu hv hR hO
   go_enter Tryz.func35, Tryz.ntmps35
   go_wp2_with fail
   refine (fine_is _ l w HU.out _ H1.out).mono ?_
   rintro e w1 ⟨rfl, g1⟩
   go_wp2_with fail
   refine (fine_is _ m w1 (HV.out.later g1) _ H2.out).mono ?_
   rintro e w2 ⟨rfl, g2⟩
   have g3 := Grows.then g1 g2
   clear g1 g2
   go_wp2_with fail
   go_loopw [5] (fun z wr => ∃ i : Nat, i ≤ s ∧ (i = 0 ∨ i + 1 ≤ s) ∧ z = .int .i64 i ∧ Hid (anyTo (rcO l m) i = false) ∧ Grows w wr) (fun z _ => s - (RowKit.intOf z).toNat)
   case atStart => exact ⟨0, Nat.zero_le _, .inl rfl, rfl, Lib.hid rfl, g3⟩
   case round =>
    clear g3
    obtain ⟨i, hi, hi2, rfl, HA, hG⟩ := hrel
    have is : IntKind.i64.wrap ((i : Int) + 1) = ((i + 1 : Nat) : Int) := by rw [IntWalk.i64_in _ (by omega)]; rfl
    by_cases hlt : i + 1 < s
    ·have c1 : (i : Int) + 1 < s := by omega
     go_wp2_with fail
     go_loopw [6] (fun z wz => ∃ k : Nat, k ≤ t ∧ (k = 0 ∨ k + 1 ≤ t) ∧ z = .int .i64 k ∧ Hid (anyTo (rcI l m i) k = false) ∧ Grows w wz) (fun z _ => t - (RowKit.intOf z).toNat)
     case atStart => exact ⟨0, Nat.zero_le _, .inl rfl, rfl, Lib.hid rfl, hG⟩
     case round =>
      clear hG
      obtain ⟨k, hk, hk2, rfl, HB, hI⟩ := hrel
      have ks : IntKind.i64.wrap ((k : Int) + 1) = ((k + 1 : Nat) : Int) := by rw [IntWalk.i64_in _ (by omega)]; rfl
      by_cases hlk : k + 1 < t
      ·have c6 : (k : Int) + 1 < t := by omega
       obtain ⟨b, o, rfl, -⟩ := (HU.out).spot (by rw [HS.out]; omega)
       obtain ⟨b2, o2, rfl, -⟩ := (HV.out).spot (by rw [HT.out]; omega)
       have p0 : l[i]? = some ((pt l i).1, (pt l i).2) := at_pt (by rw [HS.out]; omega)
       have p1 : l[i + 1]? = some ((pt l (i + 1)).1, (pt l (i + 1)).2) := at_pt (by rw [HS.out]; omega)
       have p2 : m[k]? = some ((pt m k).1, (pt m k).2) := at_pt (by rw [HT.out]; omega)
       have p3 : m[k + 1]? = some ((pt m (k + 1)).1, (pt m (k + 1)).2) := at_pt (by rw [HT.out]; omega)
       obtain ⟨X, hX⟩ : ∃ X, rcX l m i k = X := ⟨_, rfl⟩
       obtain ⟨q, hq⟩ : ∃ X, endR l m i k = X := ⟨_, rfl⟩
       have hI' : rcI l m i k = (decide (X = 2) || (decide (X = 1) && !q)) := by unfold rcI; rw [hX, hq]
       have hm : meetOf (pt l i).1 (pt l i).2 (pt l (i + 1)).1 (pt l (i + 1)).2 (pt m k).1 (pt m k).2 (pt m (k + 1)).1 (pt m (k + 1)).2 = X := hX
       clear hX
       generalize (pt l i).1 = x0 at *
       generalize (pt l i).2 = x1 at *
       generalize (pt l (i + 1)).1 = x2 at *
       generalize (pt l (i + 1)).2 = x3 at *
       generalize (pt m k).1 = y0 at *
       generalize (pt m k).2 = y1 at *
       generalize (pt m (k + 1)).1 = y2 at *
       generalize (pt m (k + 1)).2 = y3 at *
       have HP0 := Lib.hid p0
       have HP1 := Lib.hid p1
       have HP2 := Lib.hid p2
       have HP3 := Lib.hid p3
       have HM := Lib.hid hm
       have HQ := Lib.hid hq
       have HI := Lib.hid hI'
       clear p0 p1 p2 p3 hm hq hI'
       have d1 : (i : Int) < s := by omega
       have d2 : (0 : Int) ≤ i := by omega
       have d4 : (0 : Int) ≤ (i : Int) + 1 := by omega
       have d5 : ((i : Int) + 1).toNat = i + 1 := by omega
       have d6 : (k : Int) < t := by omega
       have d7 : (0 : Int) ≤ k := by omega
       have d9 : (0 : Int) ≤ (k : Int) + 1 := by omega
       have d0 : ((k : Int) + 1).toNat = k + 1 := by omega
       have X0 := (Has.nil hI).drew
       clear hI
       go_wp2_with fail
       have ms1 := Lib.hid (show ∀ w', Has w [] w' → (w'.cell? ⟨b, o + i * 2, none⟩ = some (.int .i64 x0) ∧ w'.cell? ⟨b, o + i * 2 + 1, none⟩ = some (.int .i64 x1) ∧ w'.cell? ⟨b, o + (i + 1) * 2, none⟩ = some (.int .i64 x2) ∧ w'.cell? ⟨b, o + (i + 1) * 2 + 1, none⟩ = some (.int .i64 x3) ∧ w'.cell? ⟨b2, o2 + k * 2, none⟩ = some (.int .i64 y0) ∧ w'.cell? ⟨b2, o2 + k * 2 + 1, none⟩ = some (.int .i64 y1) ∧ w'.cell? ⟨b2, o2 + (k + 1) * 2, none⟩ = some (.int .i64 y2) ∧ w'.cell? ⟨b2, o2 + (k + 1) * 2 + 1, none⟩ = some (.int .i64 y3)) ∧ Has w [] w' from fun w' h => by
        have hRb := HU.out.later h.low
        have hRb2 := HV.out.later h.low
        exact ⟨⟨(hRb.cells HP0.out).1, (hRb.cells HP0.out).2, (hRb.cells HP1.out).1, (hRb.cells HP1.out).2, (hRb2.cells HP2.out).1, (hRb2.cells HP2.out).2, (hRb2.cells HP3.out).1, (hRb2.cells HP3.out).2⟩, h⟩)
       refine wp_region_held_drew (S := (fun w' => (w'.cell? ⟨b, o + i * 2, none⟩ = some (.int .i64 x0) ∧ w'.cell? ⟨b, o + i * 2 + 1, none⟩ = some (.int .i64 x1) ∧ w'.cell? ⟨b, o + (i + 1) * 2, none⟩ = some (.int .i64 x2) ∧ w'.cell? ⟨b, o + (i + 1) * 2 + 1, none⟩ = some (.int .i64 x3) ∧ w'.cell? ⟨b2, o2 + k * 2, none⟩ = some (.int .i64 y0) ∧ w'.cell? ⟨b2, o2 + k * 2 + 1, none⟩ = some (.int .i64 y1) ∧ w'.cell? ⟨b2, o2 + (k + 1) * 2, none⟩ = some (.int .i64 y2) ∧ w'.cell? ⟨b2, o2 + (k + 1) * 2 + 1, none⟩ = some (.int .i64 y3)) ∧ Has w [] w')) (by kernel_rfl) (ms1.out _ X0) (fun hHeld => ?_)
       refine tbA [0, 1, 2, 3, 4, 5, 6, 7, 8] ?_
       refine tkA (.slice (some ⟨b, o, none⟩) s cap) (oi := ⟨some 30, .move (.tmp 0), 42, _, _, none⟩) ?_
       simp only [Act.put, pA, pB, pC]
       refine tkA (.int .i64 i) (oi := ⟨some 31, .move (.tmp 5), 3, _, _, none⟩) ?_
       simp only [Act.put, pA, pB, pC]
       refine tkA (.pointer (some ⟨b, o + i * 2, none⟩)) (oi := ⟨some 32, .indexAddr 42 (.tmp 30) (.tmp 31), 0, _, _, none⟩) ?_
       simp only [Act.put, pA, pB, pC]
       refine tkA (.agg #[.int .i64 x0, .int .i64 x1]) (oi := ⟨some 33, .load 37 (.tmp 32), 37, _, _, none⟩) ?_
       simp only [Act.put, pA, pB, pC]
       refine tkA (.slice (some ⟨b, o, none⟩) s cap) (oi := ⟨some 34, .move (.tmp 0), 42, _, _, none⟩) ?_
       simp only [Act.put, pA, pB, pC]
       refine tkA (.int .i64 i) (oi := ⟨some 35, .move (.tmp 5), 3, _, _, none⟩) ?_
       simp only [Act.put, pA, pB, pC]
       refine tkA (.int .i64 ((i : Int) + 1)) (oi := ⟨some 36, .binOp .add 3 (.tmp 35) (.const (.int .i64 1)) 3, 3, _, _, none⟩) ?_
       simp only [Act.put, pA, pB, pC]
       refine tkA (.pointer (some ⟨b, o + (i + 1) * 2, none⟩)) (oi := ⟨some 37, .indexAddr 42 (.tmp 34) (.tmp 36), 0, _, _, none⟩) ?_
       simp only [Act.put, pA, pB, pC]
       refine tkA (.agg #[.int .i64 x2, .int .i64 x3]) (oi := ⟨some 38, .load 37 (.tmp 37), 37, _, _, none⟩) ?_
       simp only [Act.put, pA, pB, pC]
       refine teA ?_
       refine tlA #[true, true, true, true, true, true, true, true, true, false, false, false, false, false, false, false, false, false, false, false] ?_
       refine tbA [9, 10, 11, 12, 13, 14, 15, 16, 17] ?_
       refine tkA (.slice (some ⟨b2, o2, none⟩) t cap2) (oi := ⟨some 39, .move (.tmp 1), 42, _, _, none⟩) ?_
       simp only [Act.put, pA, pB, pC]
       refine tkA (.int .i64 k) (oi := ⟨some 40, .move (.tmp 6), 3, _, _, none⟩) ?_
       simp only [Act.put, pA, pB, pC]
       refine tkA (.pointer (some ⟨b2, o2 + k * 2, none⟩)) (oi := ⟨some 41, .indexAddr 42 (.tmp 39) (.tmp 40), 0, _, _, none⟩) ?_
       simp only [Act.put, pA, pB, pC]
       refine tkA (.agg #[.int .i64 y0, .int .i64 y1]) (oi := ⟨some 42, .load 37 (.tmp 41), 37, _, _, none⟩) ?_
       simp only [Act.put, pA, pB, pC]
       refine tkA (.slice (some ⟨b2, o2, none⟩) t cap2) (oi := ⟨some 43, .move (.tmp 1), 42, _, _, none⟩) ?_
       simp only [Act.put, pA, pB, pC]
       refine tkA (.int .i64 k) (oi := ⟨some 44, .move (.tmp 6), 3, _, _, none⟩) ?_
       simp only [Act.put, pA, pB, pC]
       refine tkA (.int .i64 ((k : Int) + 1)) (oi := ⟨some 45, .binOp .add 3 (.tmp 44) (.const (.int .i64 1)) 3, 3, _, _, none⟩) ?_
       simp only [Act.put, pA, pB, pC]
       refine tkA (.pointer (some ⟨b2, o2 + (k + 1) * 2, none⟩)) (oi := ⟨some 46, .indexAddr 42 (.tmp 43) (.tmp 45), 0, _, _, none⟩) ?_
       simp only [Act.put, pA, pB, pC]
       refine tkA (.agg #[.int .i64 y2, .int .i64 y3]) (oi := ⟨some 47, .load 37 (.tmp 46), 37, _, _, none⟩) ?_
       simp only [Act.put, pA, pB, pC]
       refine teA ?_
       refine tlA #[true, true, true, true, true, true, true, true, true, true, true, true, true, true, true, true, true, true, false, false] ?_
       refine trA [18] ?_
       refine AllReadyH.cons (o := ⟨some 48, .call { callee := .value (.func 49), args := #[.tmp 33, .tmp 38, .tmp 42, .tmp 47], argTypes := #[37, 37, 37, 37] }, 3, _, _, none⟩) rfl (fun K hK => ?_) AllReadyH.nil
       go_simp
       go_at_call 49
       refine (Has.call X0 (rmeet_is _ _ _ _ _ _ _ _ _ HM.out _)).mono ?_
       rintro e w3 ⟨rfl, X1⟩
       go_wp2_with fail
       clear hHeld
       refine hK.out _ _ (ms1.out _ X1) (fun hHeld => ?_)
       clear hK K
       try simp only [pA, pB, pC]
       refine tlA #[true, true, true, true, true, true, true, true, true, true, true, true, true, true, true, true, true, true, true, false] ?_
       refine tbA [19] ?_
       refine tkA (.int .i64 X) (oi := ⟨some 7, .assign (.tmp 48), 3, _, _, none⟩) ?_
       simp only [Act.put, pA, pB, pC]
       refine teA ?_
       refine tlA #[true, true, true, true, true, true, true, true, true, true, true, true, true, true, true, true, true, true, true, true] ?_
       refine wpAnyH_done (by kernel_rfl) ?_ _
       clear hHeld
       clear ms1 X0
       by_cases q2 : X = 2
       ·have f2 : (X == 2) = true := by rw [beq_iff_eq]; exact q2
        have HN := Lib.hid (show rcI l m i k = true by rw [HI.out, q2]; rfl)
        clear q2
        go_wp2_with fail
        go_ret
        exact ⟨ret_b ((anyTo_yes (f := rcO l m) (k := i) (n := s - 1) (by rw [HO.out, ← anyTo_yes (f := rcI l m i) (k := k) (n := t - 1) HN.out (by omega)]) (by omega)).trans HF.out), X1.low⟩
       ·have f2 : (X == 2) = false := by rw [beq_eq_false_iff_ne]; exact q2
        by_cases q1 : X = 1
        ·have f1 : (X == 1) = true := by rw [beq_iff_eq]; exact q1
         cases q
         ·have HN := Lib.hid (show rcI l m i k = true by rw [HI.out, q1]; rfl)
          clear q1 q2
          go_wp2_with fail
          refine (Has.call X1 (rend_is _ _ l m i k _ (HU.out.later X1.low) (HV.out.later X1.low) (by rw [HS.out]; omega) (by rw [HT.out]; omega) _ HQ.out)).mono ?_
          rintro e w4 ⟨rfl, X2⟩
          go_wp2_with fail
          go_ret
          exact ⟨ret_b ((anyTo_yes (f := rcO l m) (k := i) (n := s - 1) (by rw [HO.out, ← anyTo_yes (f := rcI l m i) (k := k) (n := t - 1) HN.out (by omega)]) (by omega)).trans HF.out), X2.low⟩
         ·have HN := Lib.hid (show rcI l m i k = false by rw [HI.out, q1]; rfl)
          clear q1 q2
          go_wp2_with fail
          refine (Has.call X1 (rend_is _ _ l m i k _ (HU.out.later X1.low) (HV.out.later X1.low) (by rw [HS.out]; omega) (by rw [HT.out]; omega) _ HQ.out)).mono ?_
          rintro e w4 ⟨rfl, X2⟩
          go_wp2_with fail
          go_roundw
          case rel => exact ⟨k + 1, by omega, .inr (by omega), by go_num, Lib.hid (anyTo_no HB.out HN.out), X2.low⟩
          case measure => simp [RowKit.intOf]; omega
        ·have f1 : (X == 1) = false := by rw [beq_eq_false_iff_ne]; exact q1
         have HN := Lib.hid (show rcI l m i k = false by rw [HI.out, decide_eq_false q2, decide_eq_false q1]; rfl)
         clear q1 q2
         go_wp2_with fail
         go_roundw
         case rel => exact ⟨k + 1, by omega, .inr (by omega), by go_num, Lib.hid (anyTo_no HB.out HN.out), X1.low⟩
         case measure => simp [RowKit.intOf]; omega
      ·have hkm : k = t - 1 := by omega
       have HN := Lib.hid (show rcO l m i = false by rw [HO.out, ← hkm]; exact HB.out)
       go_wp2_with fail
       go_roundw
       case rel => exact ⟨i + 1, by omega, .inr (by omega), by go_num, Lib.hid (anyTo_no HA.out HN.out), hI⟩
       case measure => simp [RowKit.intOf]; omega
    ·have him : i = s - 1 := by omega
     go_wp2_with fail
     go_ret
     exact ⟨ret_b (by rw [← HF.out, ← him, HA.out]), hG⟩

end Go.Proofs.YtoaldbjcpfkcjaaGreat
