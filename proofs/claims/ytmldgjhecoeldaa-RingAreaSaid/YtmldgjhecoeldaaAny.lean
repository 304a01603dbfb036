/- line: small functions on lists. line: whether a list is closed. line: borders, ends, joints, boxes that are near, and how often two segments meet. Words for regions that make memory in any order. -/
import Derived.Test.YtmldgjhecoeldaaKit
import Derived.Test.YtmldgjhecoeldaaHeld
import Derived.Test.YtmldgjhecoeldaaHas
namespace Go.Proofs.Ytmldgjhecoeldaa
open Go.RowKit Go.Lib

theorem pright_is (x y : Int) (r : Bool) (h : inl 16384 x y = r) (w : World) :
    Calls Try.prog 80 #[.agg #[.int .i64 x, .int .i64 y]] w fun e w' => e = .returned (.bool r) ∧ Below w.heap.size w w' := h ▸ right_any x y w
theorem rpright_is (x y : Int) (r : Bool) (h : inl 16384 x y = r) (w : World) :
    Calls Try.prog 84 #[.agg #[.int .i64 x, .int .i64 y]] w fun e w' => e = .returned (.bool r) ∧ Below w.heap.size w w' := h ▸ rright_any x y w

theorem all_next {ps : List (Int × Int)} {k : Nat} {x y : Int} (h : ps[k]? = some (x, y)) (ha : (ps.take k).all rtP = true) (hr : inl 16384 x y = true) : (ps.take (k + 1)).all rtP = true := by
  rw [List.take_add_one, h, List.all_append, ha]
  simp [rtP, hr]
theorem all_stop {ps : List (Int × Int)} {k : Nat} {x y : Int} (h : ps[k]? = some (x, y)) (hr : inl 16384 x y = false) : false = ps.all rtP := by
  symm
  rw [List.all_eq_false]
  exact ⟨(x, y), List.mem_of_getElem? h, by simp [rtP, hr]⟩
theorem all_end {ps : List (Int × Int)} {k : Nat} (h : k = ps.length) (ha : (ps.take k).all rtP = true) : true = ps.all rtP := by
  subst h; rw [List.take_length] at ha; exact ha.symm

set_option maxHeartbeats 1000000 in
theorem rights_any (v : Value) (ps : List (Int × Int)) (w : World) (hv : RowP w v ps) :
    Calls Try.prog 53 #[v] w fun e w' => e = .returned (.bool (ps.all rtP)) ∧ Below w.heap.size w w' := by
  have hv0 := hv
  obtain ⟨a, cap, rfl, hc1, hc2, -⟩ := hv0
  obtain ⟨m, hm⟩ : ∃ m, ps.length = m := ⟨_, rfl⟩
  rw [hm] at hv hc1 ⊢
  have HV := Lib.hid hv
  have HM := Lib.hid hm
  clear hv hm
  go_enter Try.func53, Try.ntmps53
  go_wp2_with fail
  go_loopw [7] (fun i wr => ∃ k : Nat, k ≤ m ∧ i = .int .i64 k ∧ Hid ((ps.take k).all rtP = true) ∧ Grows w wr) (fun i _ => m - (RowKit.intOf i).toNat)
  case atStart => exact ⟨0, Nat.zero_le _, rfl, Lib.hid rfl, Below.refl _ _⟩
  case round =>
    obtain ⟨k, hk, rfl, HA, hG⟩ := hrel
    by_cases hlt : k < m
    · have hR := HV.out.later hG
      obtain ⟨b, o, rfl, -⟩ := hR.spot (by rw [HM.out]; omega)
      obtain ⟨x, y, hp⟩ := some_pt (ps := ps) (k := k) (by rw [HM.out]; exact hlt)
      obtain ⟨c0, c1⟩ := hR.cells hp
      have HP := Lib.hid hp
      clear hp hR
      have E := has1 (w := wr) [.int .i64 x, .int .i64 y] 24
      change Has wr _ (wr.alloc (.cells #[.int .i64 x, .int .i64 y] 24)) at E
      obtain ⟨k0, k1⟩ := E.pt
      cases hr : inl 16384 x y
      · have HR := Lib.hid hr
        clear hr
        go_wp2_with fail
        refine (Has.call E (pright_is x y _ HR.out _)).mono ?_
        rintro e z1 ⟨rfl, E1⟩
        clear k0 k1 c0 c1 E
        go_wp2_with fail
        go_ret
        exact ⟨ret_b (all_stop HP.out HR.out), hG.then E1.low⟩
      · have HR := Lib.hid hr
        clear hr
        go_wp2_with fail
        refine (Has.call E (pright_is x y _ HR.out _)).mono ?_
        rintro e z1 ⟨rfl, E1⟩
        clear k0 k1 c0 c1 E
        go_wp2_with fail
        go_roundw
        case rel => exact ⟨k + 1, by omega, by go_num, Lib.hid (all_next HP.out HA.out HR.out), hG.then E1.low⟩
        case measure => simp [RowKit.intOf]; omega
    · obtain rfl : k = m := by omega
      go_wp2_with fail
      go_ret
      exact ⟨ret_b (all_end HM.out.symm HA.out), hG⟩

end Go.Proofs.Ytmldgjhecoeldaa

namespace Go.Proofs.Ytmldgjhecoeldaa
open Go.RowKit Go.Lib

set_option maxHeartbeats 1000000 in
theorem fine_any (v : Value) (ps : List (Int × Int)) (w : World) (hv : RowP w v ps) :
    Calls Try.prog 55 #[v] w fun e w' => e = .returned (.bool (ps.all rtP)) ∧ Below w.heap.size w w' := by
  have hv0 := hv
  obtain ⟨a, cap, rfl, hc1, hc2, -⟩ := hv0
  obtain ⟨m, hm⟩ : ∃ m, ps.length = m := ⟨_, rfl⟩
  rw [hm] at hv hc1 ⊢
  have HV := Lib.hid hv
  have HM := Lib.hid hm
  clear hv hm
  go_enter Try.func55, Try.ntmps55
  go_wp2_with fail
  go_loopw [3] (fun i wr => ∃ k : Nat, k ≤ m ∧ i = .int .i64 k ∧ Hid ((ps.take k).all rtP = true) ∧ Grows w wr) (fun i _ => m - (RowKit.intOf i).toNat)
  case atStart => exact ⟨0, Nat.zero_le _, rfl, Lib.hid rfl, Below.refl _ _⟩
  case round =>
    obtain ⟨k, hk, rfl, HA, hG⟩ := hrel
    by_cases hlt : k < m
    · have hR := HV.out.later hG
      obtain ⟨b, o, rfl, -⟩ := hR.spot (by rw [HM.out]; omega)
      obtain ⟨x, y, hp⟩ := some_pt (ps := ps) (k := k) (by rw [HM.out]; exact hlt)
      obtain ⟨c0, c1⟩ := hR.cells hp
      have HP := Lib.hid hp
      clear hp hR
      cases hr : inl 16384 x y
      · have HR := Lib.hid hr
        clear hr
        go_wp2_with fail
        refine (rpright_is x y _ HR.out _).mono ?_
        rintro e z1 ⟨rfl, g1⟩
        clear c0 c1
        go_wp2_with fail
        go_ret
        exact ⟨ret_b (all_stop HP.out HR.out), hG.then g1⟩
      · have HR := Lib.hid hr
        clear hr
        go_wp2_with fail
        refine (rpright_is x y _ HR.out _).mono ?_
        rintro e z1 ⟨rfl, g1⟩
        clear c0 c1
        go_wp2_with fail
        go_roundw
        case rel => exact ⟨k + 1, by omega, by go_num, Lib.hid (all_next HP.out HA.out HR.out), hG.then g1⟩
        case measure => simp [RowKit.intOf]; omega
    · obtain rfl : k = m := by omega
      go_wp2_with fail
      go_ret
      exact ⟨ret_b (all_end HM.out.symm HA.out), hG⟩

/-- Whether a list ends where it begins. -/
def closedP (ps : List (Int × Int)) : Bool := decide (4 ≤ ps.length) && decide (pt ps 0 = pt ps (ps.length - 1))
theorem closedP_is {ps : List (Int × Int)} {x y x' y' : Int} (h4 : 4 ≤ ps.length) (hp : ps[0]? = some (x, y)) (hq : ps[ps.length - 1]? = some (x', y')) : closedP ps = decide ((x, y) = (x', y')) := by
  unfold closedP; rw [pt_of hp, pt_of hq, decide_eq_true h4]; rfl
/-- Two points: equal, or one of the coordinates is not. -/
theorem eq3 (x y x' y' : Int) : ((x == x') = true ∧ (y == y') = true ∧ decide ((x, y) = (x', y')) = true) ∨ ((x == x') = true ∧ (y == y') = false ∧ decide ((x, y) = (x', y')) = false) ∨ ((x == x') = false ∧ decide ((x, y) = (x', y')) = false) := by
  by_cases h : x = x' <;> by_cases k : y = y' <;> simp [h, k]

set_option maxHeartbeats 1000000 in
theorem closed_any (v : Value) (ps : List (Int × Int)) (w : World) (hv : RowP w v ps) :
    Calls Try.prog 99 #[v] w fun e w' => e = .returned (.bool (closedP ps)) ∧ Below w.heap.size w w' := by
  have hv0 := hv
  obtain ⟨a, cap, rfl, hc1, hc2, -⟩ := hv0
  by_cases h4 : 4 ≤ ps.length
  · obtain ⟨b, o, rfl, -⟩ := hv.spot (by omega)
    obtain ⟨x, y, hp⟩ := some_pt (ps := ps) (k := 0) (by omega)
    obtain ⟨x', y', hq⟩ := some_pt (ps := ps) (k := ps.length - 1) (by omega)
    obtain ⟨c0, c1⟩ := hv.cells hp
    obtain ⟨c2, c3⟩ := hv.cells hq
    have hR := closedP_is h4 hp hq
    obtain ⟨m, hm⟩ : ∃ m, ps.length = m + 4 := ⟨ps.length - 4, by omega⟩
    rw [hm] at c2 c3 hc1 ⊢
    rw [show m + 4 - 1 = m + 3 by omega] at c2 c3
    clear hm hp hq hv h4
    have s1 : ((m : Int) + 4 - 1) = ((m + 3 : Nat) : Int) := by omega
    have s2 : IntKind.i64.wrap ((m : Int) + 4 - 1) = ((m + 3 : Nat) : Int) := by rw [IntWalk.i64_in _ (by omega)]; omega
    have s3 : decide ((4 : Int) ≤ (m : Int) + 4) = true := decide_eq_true (by omega)
    have s4 : (0 : Int) < (m : Int) + 4 := by omega
    have s5 : ((m + 3 : Nat) : Int) < (m : Int) + 4 := by omega
    have s6 : (m : Int) + 3 < (m : Int) + 4 := by omega
    simp only [Nat.zero_mul, Nat.add_zero] at c0 c1
    rcases eq3 x y x' y' with ⟨e1, e2, e3⟩ | ⟨e1, e2, e3⟩ | ⟨e1, e3⟩
    all_goals
      rw [e3] at hR
      have HR := Lib.hid hR
      clear hR e3
      go_enter Try.func99, Try.ntmps99
      go_wp2_with fail
      go_region
      go_wp2_with fail
      go_ret
      exact ⟨ret_b HR.out.symm, by go_grown⟩
  · have HR := Lib.hid (show closedP ps = false by unfold closedP; simp; omega)
    have s3 : decide ((4 : Int) ≤ (ps.length : Int)) = false := by simp; omega
    go_enter Try.func99, Try.ntmps99
    go_wp2_with fail
    go_region
    go_wp2_with fail
    go_ret
    exact ⟨ret_b HR.out.symm, by go_grown⟩

set_option maxHeartbeats 1000000 in
theorem rclosed_any (v : Value) (ps : List (Int × Int)) (w : World) (hv : RowP w v ps) :
    Calls Try.prog 56 #[v] w fun e w' => e = .returned (.bool (closedP ps)) ∧ Below w.heap.size w w' := by
  have hv0 := hv
  obtain ⟨a, cap, rfl, hc1, hc2, -⟩ := hv0
  by_cases h4 : 4 ≤ ps.length
  · obtain ⟨b, o, rfl, -⟩ := hv.spot (by omega)
    obtain ⟨x, y, hp⟩ := some_pt (ps := ps) (k := 0) (by omega)
    obtain ⟨x', y', hq⟩ := some_pt (ps := ps) (k := ps.length - 1) (by omega)
    obtain ⟨c0, c1⟩ := hv.cells hp
    obtain ⟨c2, c3⟩ := hv.cells hq
    have hR := closedP_is h4 hp hq
    obtain ⟨m, hm⟩ : ∃ m, ps.length = m + 4 := ⟨ps.length - 4, by omega⟩
    rw [hm] at c2 c3 hc1 ⊢
    rw [show m + 4 - 1 = m + 3 by omega] at c2 c3
    clear hm hp hq hv h4
    have s1 : ((m : Int) + 4 - 1) = ((m + 3 : Nat) : Int) := by omega
    have s2 : IntKind.i64.wrap ((m : Int) + 4 - 1) = ((m + 3 : Nat) : Int) := by rw [IntWalk.i64_in _ (by omega)]; omega
    have s3 : decide ((4 : Int) ≤ (m : Int) + 4) = true := decide_eq_true (by omega)
    have s4 : (0 : Int) < (m : Int) + 4 := by omega
    have s5 : ((m + 3 : Nat) : Int) < (m : Int) + 4 := by omega
    have s6 : (m : Int) + 3 < (m : Int) + 4 := by omega
    simp only [Nat.zero_mul, Nat.add_zero] at c0 c1
    rcases eq3 x y x' y' with ⟨e1, e2, e3⟩ | ⟨e1, e2, e3⟩ | ⟨e1, e3⟩
    all_goals
      rw [e3] at hR
      have HR := Lib.hid hR
      clear hR e3
      go_enter Try.func56, Try.ntmps56
      go_wp2_with fail
      go_region
      go_wp2_with fail
      go_ret
      exact ⟨ret_b HR.out.symm, by go_grown⟩
  · have HR := Lib.hid (show closedP ps = false by unfold closedP; simp; omega)
    have s3 : decide ((4 : Int) ≤ (ps.length : Int)) = false := by simp; omega
    go_enter Try.func56, Try.ntmps56
    go_wp2_with fail
    go_region
    go_wp2_with fail
    go_ret
    exact ⟨ret_b HR.out.symm, by go_grown⟩

end Go.Proofs.Ytmldgjhecoeldaa

namespace Go.Proofs.Ytmldgjhecoeldaa
open Go.RowKit Go.Lib

/-- The cells of points. -/
def flat : List (Int × Int) → List Value
  | [] => []
  | p :: t => .int .i64 p.1 :: .int .i64 p.2 :: flat t
theorem flat_at : ∀ {ps : List (Int × Int)} {i : Nat} {p : Int × Int}, ps[i]? = some p → (flat ps)[i * 2]? = some (.int .i64 p.1) ∧ (flat ps)[i * 2 + 1]? = some (.int .i64 p.2)
  | [], i, p, h => by simp at h
  | q :: t, 0, p, h => by simp at h; subst h; exact ⟨rfl, rfl⟩
  | q :: t, i + 1, p, h => by
    simp at h
    rw [show (i + 1) * 2 = i * 2 + 1 + 1 by omega]
    exact flat_at h
theorem RowP.block {W : World} {b c : Nat} {ps : List (Int × Int)} (h : Cells W b (flat ps)) (h1 : ps.length ≤ c) (h2 : (c : Int) ≤ 9223372036854775807) : RowP W (.slice (some ⟨b, 0, none⟩) ps.length c) ps :=
  ⟨_, c, rfl, h1, h2, .inr ⟨b, 0, rfl, fun i p hp => by
    rw [Nat.zero_add]
    exact ⟨(h _ _ (flat_at hp).1).1, (h _ _ (flat_at hp).2).1⟩⟩⟩
theorem Has.cells {w W : World} {b : Nat} {xs : List Value} {bs : List (Nat × List Value)} (h : Has w ((b, xs) :: bs) W) : Cells W b xs := h.c _ (.head _)

/-- The ends of a list. -/
def endsP (ps : List (Int × Int)) : List (Int × Int) := if ps.length = 0 then [] else [pt ps 0, pt ps (ps.length - 1)]
/-- How many points two segments of a list are to have in common. -/
def wantP (ps : List (Int × Int)) (i j : Nat) : Int := if j = i + 1 ∨ closedP ps = true ∧ i = 0 ∧ j + 2 = ps.length then 1 else 0
theorem wantP_next {ps : List (Int × Int)} {i j : Nat} (h : j = i + 1) : 1 = wantP ps i j := by unfold wantP; rw [if_pos (.inl h)]
theorem wantP_open {ps : List (Int × Int)} {i j : Nat} (h : ¬ j = i + 1) (k : closedP ps = false) : 0 = wantP ps i j := by unfold wantP; rw [if_neg (by rw [k]; simp; exact h)]
theorem wantP_far {ps : List (Int × Int)} {i j : Nat} (h : ¬ j = i + 1) (k : ¬ i = 0) : 0 = wantP ps i j := by unfold wantP; rw [if_neg (by omega)]
theorem wantP_mid {ps : List (Int × Int)} {i j : Nat} (h : ¬ j = i + 1) (k : ¬ j + 2 = ps.length) : 0 = wantP ps i j := by unfold wantP; rw [if_neg (by omega)]
theorem wantP_last {ps : List (Int × Int)} {i j : Nat} (k : closedP ps = true) (h : i = 0) (l : j + 2 = ps.length) : 1 = wantP ps i j := by unfold wantP; rw [if_pos (.inr ⟨k, h, l⟩)]

theorem closed_is (v : Value) (ps : List (Int × Int)) (w : World) (hv : RowP w v ps) (r : Bool) (h : closedP ps = r) :
    Calls Try.prog 99 #[v] w fun e w' => e = .returned (.bool r) ∧ Below w.heap.size w w' := h ▸ closed_any v ps w hv
theorem rclosed_is (v : Value) (ps : List (Int × Int)) (w : World) (hv : RowP w v ps) (r : Bool) (h : closedP ps = r) :
    Calls Try.prog 56 #[v] w fun e w' => e = .returned (.bool r) ∧ Below w.heap.size w w' := h ▸ rclosed_any v ps w hv

set_option maxHeartbeats 1000000 in
theorem joints_any (v : Value) (ps : List (Int × Int)) (i j : Nat) (w : World) (hv : RowP w v ps) (hi : i < ps.length) (_hj : j < ps.length) (h2 : 2 ≤ ps.length) :
    Calls Try.prog 83 #[v, .int .i64 i, .int .i64 j] w fun e w' => e = .returned (.int .i64 (wantP ps i j)) ∧ Below w.heap.size w w' := by
  have hv0 := hv
  obtain ⟨a, cap, rfl, hc1, hc2, -⟩ := hv0
  have HV := Lib.hid hv
  obtain ⟨m, hm⟩ : ∃ m, ps.length = m + 2 := ⟨ps.length - 2, by omega⟩
  have s1 : IntKind.i64.wrap ((i : Int) + 1) = (i : Int) + 1 := IntWalk.i64_in _ (by omega)
  have s2 : IntKind.i64.wrap ((m : Int) + 2 - 2) = (m : Int) := by rw [IntWalk.i64_in _ (by omega)]; omega
  have s3 : (m : Int) + 2 - 2 = (m : Int) := by omega
  by_cases e1 : j = i + 1
  · have HR := Lib.hid (wantP_next (ps := ps) e1)
    have f1 : ((j : Int) == (i : Int) + 1) = true := by rw [beq_iff_eq]; omega
    clear hv hm hi _hj h2 e1
    go_enter Try.func83, Try.ntmps83
    go_wp2_with fail
    go_ret
    exact ⟨ret_i HR.out, by go_grown⟩
  · have f1 : ((j : Int) == (i : Int) + 1) = false := by rw [beq_eq_false_iff_ne]; omega
    cases hc : closedP ps
    · have HR := Lib.hid (wantP_open e1 hc)
      have HC := Lib.hid hc
      clear hv hm hi _hj h2 e1 hc
      go_enter Try.func83, Try.ntmps83
      go_wp2_with fail
      refine (closed_is _ ps _ HV.out _ HC.out).mono ?_
      rintro e w1 ⟨rfl, g1⟩
      go_wp2_with fail
      go_ret
      exact ⟨ret_i HR.out, g1⟩
    · have HC := Lib.hid hc
      by_cases e2 : i = 0
      · subst e2
        have f0 : ((j : Int) == 1) = false := by rw [beq_eq_false_iff_ne]; omega
        by_cases e3 : j + 2 = ps.length
        · have HR := Lib.hid (wantP_last (i := 0) (j := j) hc rfl e3)
          obtain rfl : j = m := by omega
          have f3 : ((j : Int) == (j : Int)) = true := by simp
          rw [hm] at hc1 ⊢
          rw [hm] at HV
          clear hv hi _hj h2 e1 hc hm e3
          go_enter Try.func83, Try.ntmps83
          go_wp2_with fail
          refine (closed_is _ ps _ HV.out _ HC.out).mono ?_
          rintro e w1 ⟨rfl, g1⟩
          go_wp2_with fail
          go_ret
          exact ⟨ret_i HR.out, g1⟩
        · have HR := Lib.hid (wantP_mid e1 e3)
          have f3 : ((j : Int) == (m : Int)) = false := by rw [beq_eq_false_iff_ne]; omega
          rw [hm] at hc1 ⊢
          rw [hm] at HV
          clear hv hi _hj h2 e1 hc hm e3
          go_enter Try.func83, Try.ntmps83
          go_wp2_with fail
          refine (closed_is _ ps _ HV.out _ HC.out).mono ?_
          rintro e w1 ⟨rfl, g1⟩
          go_wp2_with fail
          go_ret
          exact ⟨ret_i HR.out, g1⟩
      · have HR := Lib.hid (wantP_far (ps := ps) e1 e2)
        have f2 : ((i : Int) == 0) = false := by rw [beq_eq_false_iff_ne]; omega
        clear hv hm hi _hj h2 e1 hc e2
        go_enter Try.func83, Try.ntmps83
        go_wp2_with fail
        refine (closed_is _ ps _ HV.out _ HC.out).mono ?_
        rintro e w1 ⟨rfl, g1⟩
        go_wp2_with fail
        go_ret
        exact ⟨ret_i HR.out, g1⟩

/-- Whether the boxes of two lists have a common point. -/
def nearP (l m : List (Int × Int)) : Bool := nearOf (bxo l).1.1 (bxo l).1.2 (bxo l).2.1 (bxo l).2.2 (bxo m).1.1 (bxo m).1.2 (bxo m).2.1 (bxo m).2.2
theorem lnear_any (u v : Value) (l m : List (Int × Int)) (w : World) (hu : RowP w u l) (hv : RowP w v m) :
    Calls Try.prog 97 #[u, v] w fun e w' => e = .returned (.bool (nearP l m)) ∧ Below w.heap.size w w' := by
  have HU := Lib.hid hu
  have HV := Lib.hid hv
  clear hu hv
  obtain ⟨r, hr⟩ : ∃ r, nearP l m = r := ⟨_, rfl⟩
  rw [hr]
  have HR := Lib.hid hr
  clear hr
  unfold nearP at HR
  go_enter Try.func97, Try.ntmps97
  go_wp2_with fail
  refine (box_any u l w HU.out).mono ?_
  rintro e w1 ⟨rfl, g1⟩
  generalize (bxo l).1.1 = x0 at HR ⊢
  generalize (bxo l).1.2 = x1 at HR ⊢
  generalize (bxo l).2.1 = x2 at HR ⊢
  generalize (bxo l).2.2 = x3 at HR ⊢
  go_wp2_with fail
  refine (box_any v m w1 (HV.out.later g1)).mono ?_
  rintro e w2 ⟨rfl, g2⟩
  generalize (bxo m).1.1 = y0 at HR ⊢
  generalize (bxo m).1.2 = y1 at HR ⊢
  generalize (bxo m).2.1 = y2 at HR ⊢
  generalize (bxo m).2.2 = y3 at HR ⊢
  go_wp2_with fail
  refine (near_any x0 x1 x2 x3 y0 y1 y2 y3 w2).mono ?_
  rintro e w3 ⟨rfl, g3⟩
  go_wp2_with fail
  go_ret
  exact ⟨ret_b HR.out, (Grows.then g1 g2).then g3⟩
theorem lnear_is (u v : Value) (l m : List (Int × Int)) (w : World) (hu : RowP w u l) (hv : RowP w v m) (r : Bool) (h : nearP l m = r) :
    Calls Try.prog 97 #[u, v] w fun e w' => e = .returned (.bool r) ∧ Below w.heap.size w w' := h ▸ lnear_any u v l m w hu hv

theorem Has.one4 {w0 w : World} {bs : List (Nat × List Value)} {A : Nat} {a b c d : Value} {xs : List Value} (h : Has w0 ((A, a :: b :: c :: d :: xs) :: bs) w) :
    w.cell? ⟨A, 0, none⟩ = some a ∧ w.cell? ⟨A, 1, none⟩ = some b ∧ w.cell? ⟨A, 2, none⟩ = some c ∧ w.cell? ⟨A, 3, none⟩ = some d :=
  ⟨h.fact (.head _) (i := 0) rfl, h.fact (.head _) (i := 1) rfl, h.fact (.head _) (i := 2) rfl, h.fact (.head _) (i := 3) rfl⟩
theorem Has.two4 {w0 w : World} {bs : List (Nat × List Value)} {A B : Nat} {a b c d e f g k : Value} (h : Has w0 ((A, [a, b, c, d]) :: (B, [e, f, g, k]) :: bs) w) :
    w.cell? ⟨A, 0, none⟩ = some a ∧ w.cell? ⟨A, 1, none⟩ = some b ∧ w.cell? ⟨A, 2, none⟩ = some c ∧ w.cell? ⟨A, 3, none⟩ = some d ∧ w.cell? ⟨B, 0, none⟩ = some e ∧ w.cell? ⟨B, 1, none⟩ = some f ∧ w.cell? ⟨B, 2, none⟩ = some g ∧ w.cell? ⟨B, 3, none⟩ = some k := by
  obtain ⟨x0, x1, x2, x3⟩ := h.one4
  obtain ⟨y0, y1, y2, y3⟩ := h.tail.one4
  exact ⟨x0, x1, x2, x3, y0, y1, y2, y3⟩
/-- Two lists, where they are laid. -/
theorem two_rows {w w1 : World} {bs : List (Nat × List Value)} {n : Nat} (h : Has w bs w1) (hs : w1.heap.size = n) (l m : List (Int × Int)) (hl : (l.length : Int) ≤ 9223372036854775807) (hm : (m.length : Int) ≤ 9223372036854775807) :
    Has w ((n + 1, flat m) :: (n, flat l) :: bs) ((w1.alloc (.cells (flat l).toArray 24)).alloc (.cells (flat m).toArray 24)) ∧
    RowP ((w1.alloc (.cells (flat l).toArray 24)).alloc (.cells (flat m).toArray 24)) (.slice (some ⟨n, 0, none⟩) l.length l.length) l ∧
    RowP ((w1.alloc (.cells (flat l).toArray 24)).alloc (.cells (flat m).toArray 24)) (.slice (some ⟨n + 1, 0, none⟩) m.length m.length) m := by
  have h2 := (h.push (flat l) 24).push (flat m) 24
  rw [size_alloc, hs] at h2
  exact ⟨h2, RowP.block h2.tail.cells (Nat.le_refl _) hl, RowP.block h2.cells (Nat.le_refl _) hm⟩
/-- A list, where it is laid. -/
theorem one_row {w w1 : World} {bs : List (Nat × List Value)} {n : Nat} (h : Has w bs w1) (hs : w1.heap.size = n) (l : List (Int × Int)) (hl : (l.length : Int) ≤ 9223372036854775807) :
    Has w ((n, flat l) :: bs) (w1.alloc (.cells (flat l).toArray 24)) ∧ RowP (w1.alloc (.cells (flat l).toArray 24)) (.slice (some ⟨n, 0, none⟩) l.length l.length) l := by
  have h2 := h.push (flat l) 24
  rw [hs] at h2
  exact ⟨h2, RowP.block h2.cells (Nat.le_refl _) hl⟩
/-- How many points two segments have in common, as line.meet says it. -/
def lmeet (a0 a1 b0 b1 c0 c1 d0 d1 : Int) : Int := if nearP [(a0, a1), (b0, b1)] [(c0, c1), (d0, d1)] = true then meetOf a0 a1 b0 b1 c0 c1 d0 d1 else 0
set_option maxHeartbeats 1000000 in
theorem lmeet_any (a0 a1 b0 b1 c0 c1 d0 d1 : Int) (w : World) :
    Calls Try.prog 82 #[.agg #[.int .i64 a0, .int .i64 a1, .int .i64 b0, .int .i64 b1], .agg #[.int .i64 c0, .int .i64 c1, .int .i64 d0, .int .i64 d1]] w fun e w' => e = .returned (.int .i64 (lmeet a0 a1 b0 b1 c0 c1 d0 d1)) ∧ Below w.heap.size w w' := by
  have C0 := has2 (w := w) [.int .i64 a0, .int .i64 a1, .int .i64 b0, .int .i64 b1] [.int .i64 c0, .int .i64 c1, .int .i64 d0, .int .i64 d1] 102 102
  cases hn : nearP [(a0, a1), (b0, b1)] [(c0, c1), (d0, d1)]
  all_goals
    first
    | have HR := Lib.hid (show lmeet a0 a1 b0 b1 c0 c1 d0 d1 = meetOf a0 a1 b0 b1 c0 c1 d0 d1 by unfold lmeet; rw [if_pos hn])
    | have HR := Lib.hid (show lmeet a0 a1 b0 b1 c0 c1 d0 d1 = 0 by unfold lmeet; rw [if_neg (by rw [hn]; simp)])
    have HN := Lib.hid hn
    clear hn
    go_enter Try.func82, Try.ntmps82
    go_upto_region 1 with fail
    change Has w _ ((w.alloc (.cells #[.int .i64 a0, .int .i64 a1, .int .i64 b0, .int .i64 b1] 102)).alloc (.cells #[.int .i64 c0, .int .i64 c1, .int .i64 d0, .int .i64 d1] 102)) at C0
    have hs : ((w.alloc (.cells #[.int .i64 a0, .int .i64 a1, .int .i64 b0, .int .i64 b1] 102)).alloc (.cells #[.int .i64 c0, .int .i64 c1, .int .i64 d0, .int .i64 d1] 102)).heap.size = w.heap.size + 1 + 1 := by simp
    generalize (w.alloc (.cells #[.int .i64 a0, .int .i64 a1, .int .i64 b0, .int .i64 b1] 102)).alloc (.cells #[.int .i64 c0, .int .i64 c1, .int .i64 d0, .int .i64 d1] 102) = w1 at *
    obtain ⟨k0, k1, k2, k3, k4, k5, k6, k7⟩ := C0.two4
    obtain ⟨C2, R1, R2⟩ := two_rows C0 hs [(a0, a1), (b0, b1)] [(c0, c1), (d0, d1)] (by simp) (by simp)
    go_wp2_with fail
    change Has w _ ((w1.alloc (.cells #[.int .i64 a0, .int .i64 a1, .int .i64 b0, .int .i64 b1] 24)).alloc (.cells #[.int .i64 c0, .int .i64 c1, .int .i64 d0, .int .i64 d1] 24)) at C2
    refine (Has.call C2 (lnear_is _ _ _ _ _ R1 R2 _ HN.out)).mono ?_
    rintro e w3 ⟨rfl, C3⟩
    clear C2 R1 R2 k0 k1 k2 k3 k4 k5 k6 k7 C0 hs
    obtain ⟨k0, k1, k2, k3, k4, k5, k6, k7⟩ := C3.tail.tail.two4
    go_wp2_with fail
  · go_ret
    exact ⟨ret_i HR.out.symm, C3.low⟩
  · refine (Has.call C3 (meet_any _ _ _ _ _ _ _ _ _)).mono ?_
    rintro e w4 ⟨rfl, C4⟩
    go_wp2_with fail
    go_ret
    exact ⟨ret_i HR.out.symm, C4.low⟩
theorem lmeet_is (a0 a1 b0 b1 c0 c1 d0 d1 s : Int) (h : lmeet a0 a1 b0 b1 c0 c1 d0 d1 = s) (w : World) :
    Calls Try.prog 82 #[.agg #[.int .i64 a0, .int .i64 a1, .int .i64 b0, .int .i64 b1], .agg #[.int .i64 c0, .int .i64 c1, .int .i64 d0, .int .i64 d1]] w fun e w' => e = .returned (.int .i64 s) ∧ Below w.heap.size w w' := h ▸ lmeet_any a0 a1 b0 b1 c0 c1 d0 d1 w

end Go.Proofs.Ytmldgjhecoeldaa

namespace Go.Proofs.Ytmldgjhecoeldaa
open Go.RowKit Go.Lib

section
variable {P : Program} {md : Region.Mode} {ops : Array Oper} {Q : Exit → Act → World → Prop} {S : World → Prop}
theorem wpAnyH_cast {fuel fuel' : Nat} {l l' : Array Bool} {a a' : Act} {w : World} (hf : fuel = fuel') (hl : l = l') (ha : a = a') (h : wpAnyH P md ops Q S fuel' l' a' w) : wpAnyH P md ops Q S fuel l a w := by
  rw [hf, hl, ha]; exact h
/-- Where operations come up in any order: a state x says what has come up. -/
theorem any_ind {X : Type} {n : X → Nat} {l : X → Array Bool} {u : X → Act → Act} {I : X → World → Prop} {m fuel : Nat} {listed : Array Bool} {act : Act} {w : World} (x0 : X)
    (h0 : listed = l x0) (ha : act = u x0 act) (hn : fuel = n x0 + m) (hI : I x0 w)
    (h : ∀ k, (∀ x w, n x = k → I x w → wpAnyH P md ops Q S (k + m) (l x) (u x act) w) → ∀ x w, n x = k + 1 → I x w → wpAnyH P md ops Q S (k + m + 1) (l x) (u x act) w)
    (hz : ∀ x w, n x = 0 → I x w → wpAnyH P md ops Q S m (l x) (u x act) w) : wpAnyH P md ops Q S fuel listed act w := by
  have all : ∀ k x w, n x = k → I x w → wpAnyH P md ops Q S (k + m) (l x) (u x act) w := by
    intro k
    induction k with
    | zero => intro x w hx hi; rw [Nat.zero_add]; exact hz x w hx hi
    | succ k ih => intro x w hx hi; rw [Nat.add_right_comm]; exact h k ih x w hx hi
  exact wpAnyH_cast hn h0 ha (all _ x0 w rfl hI)
end
/-- A block that may have been made. -/
def bl (z : List Value) : Option Nat → List (Nat × List Value) → List (Nat × List Value)
  | none, bs => bs
  | some p, bs => (p, z) :: bs
/-- Three blocks made, and three calls done, in any order. -/
structure Sta where
  a : Option Nat
  b : Option Nat
  c : Option Nat
  n : Nat
def Sta.left (x : Sta) : Nat := (3 - x.n) + (if x.a.isSome then 0 else 1) + (if x.b.isSome then 0 else 1) + (if x.c.isSome then 0 else 1)
def putp (s : Nat) : Option Nat → Act → Act
  | none, a => a
  | some p, a => a.put (some s) (.pointer (some ⟨p, 0, none⟩))
def putc (s : Nat) (v : Value) : Bool → Act → Act
  | false, a => a
  | true, a => a.put (some s) v

end Go.Proofs.Ytmldgjhecoeldaa
