/- Points and lines turned, moved and reversed. -/
import Derived.Test.YtoaldbjcpfkcjaaGreatrWa
namespace Go.Proofs.YtoaldbjcpfkcjaaGreat
open Go.RowKit Go.Lib

set_option maxHeartbeats 400000 in
theorem add_any (a b c d : Int) (w : World) :
    Calls Tryz.prog 28 #[.agg #[.int .i64 a, .int .i64 b], .agg #[.int .i64 c, .int .i64 d]] w fun e w' => e = .returned (.agg #[.int .i64 (wrap64 (a + c)), .int .i64 (wrap64 (b + d))]) ∧ Below w.heap.size w w' := by
  go_enter Tryz.func28, Tryz.ntmps28
  go_wp2
  go_returns
  exact ⟨rfl, by go_grown⟩

set_option maxHeartbeats 1000000 in
theorem turn_any (x y n : Int) (w : World) :
    Calls Tryz.prog 29 #[.agg #[.int .i64 x, .int .i64 y], .int .i64 n] w fun e w' => e = .returned (.agg #[.int .i64 (rotN (n % 4).toNat x y).1, .int .i64 (rotN (n % 4).toNat x y).2]) ∧ Below w.heap.size w w' := by
  obtain ⟨m, hm⟩ : ∃ m : Nat, n % 4 = m := ⟨(n % 4).toNat, by omega⟩
  have hm3 : m ≤ 3 := by omega
  have C0 := has2 (w := w) [.int .i64 x, .int .i64 y] [.int .i64 0, .int .i64 0] 37 37
  rw [hm, Int.toNat_natCast]
  have HM := Lib.hid hm
  clear hm
  go_enter Tryz.func29, Tryz.ntmps29
  go_wp2_with fail
  rw [and3, HM.out]
  change Has w _ ((w.alloc (.cells #[.int .i64 x, .int .i64 y] 37)).alloc (.cells #[.int .i64 0, .int .i64 0] 37)) at C0
  generalize (w.alloc (.cells #[.int .i64 x, .int .i64 y] 37)).alloc (.cells #[.int .i64 0, .int .i64 0] 37) = w1 at *
  go_loopw [7] (fun i wr => ∃ k : Nat, k ≤ m ∧ i = .int .i64 (k : Int) ∧ Has w [(w.heap.size, [.int .i64 (rotN k x y).1, .int .i64 (rotN k x y).2]), (w.heap.size + 1, [.int .i64 0, .int .i64 0])] wr) (fun i _ => m - (intOf i).toNat)
  case atStart => exact ⟨0, by omega, rfl, C0⟩
  case round =>
    clear C0
    obtain ⟨k, hk, rfl, C⟩ := hrel
    by_cases hlt : k < m
    · obtain ⟨c0, c1⟩ := C.pt
      obtain ⟨f0, f1⟩ := C.ptf
      have C1 := C.set2 (.int .i64 (wrap64 (-(rotN k x y).2))) (.int .i64 (rotN k x y).1)
      go_wp2_with fail
      go_round
      case rel => exact ⟨k + 1, by omega, by go_num, C1⟩
      case measure => simp [intOf]; omega
    · obtain rfl : k = m := by omega
      have C1 := C.swap.set2 (.int .i64 (rotN k x y).1) (.int .i64 (rotN k x y).2)
      obtain ⟨c0, c1⟩ := C.pt
      obtain ⟨c2, c3⟩ := C.tail.pt
      obtain ⟨f2, f3⟩ := C.tail.ptf
      go_wp2_with fail
      generalize (World.setCell _ ⟨w.heap.size + 1, 0, none⟩ (.int .i64 (rotN k x y).1)).setCell ⟨w.heap.size + 1, 1, none⟩ (.int .i64 (rotN k x y).2) = w3 at *
      obtain ⟨d0, d1⟩ := C1.pt
      exact bodyPost_ret (v := .agg #[.int .i64 (rotN k x y).1, .int .i64 (rotN k x y).2]) (by simp [results, Tryz.results29, go_sem, d0, d1]) rfl ⟨rfl, C1.low⟩

set_option maxRecDepth 100000 in
set_option maxHeartbeats 2000000 in
theorem clone_any (v : Value) (ps : List (Int × Int)) (w : World) (hv : RowP w v ps) (hn : ps.length ≤ 1000) :
    Calls Tryz.prog 53 #[v] w fun e w' => ∃ u, e = .returned u ∧ Own w.heap.size w' u ps ∧ Below w.heap.size w w' := by
  have hv0 := hv
  obtain ⟨a, cap, rfl, hc1, hc2, hq⟩ := hv0
  rcases a with _ | ad
  · have h0 : ps = [] := by
      rcases hq with h | ⟨b, o, h, _⟩
      · exact h
      · cases h
    subst h0
    clear hv hq
    have he : ∀ w : World, (binOp .eql 42 (.slice none 0 cap) (.slice none 0 0)).run Tryz.prog w = .ok (.bool true) w := fun _ => rfl
    simp only [List.length_nil]
    go_enter Tryz.func53, Tryz.ntmps53
    go_wp2_with fail
    go_ret
    exact ⟨_, rfl, Own.nil _ _, by go_grown⟩
  · obtain ⟨m, hm⟩ : ∃ m, ps.length = m := ⟨_, rfl⟩
    have HV := Lib.hid hv
    rw [hm] at hn hc1 ⊢
    rw [hm] at HV
    have HM := Lib.hid hm
    clear hv hq hm
    have he : ∀ w : World, (binOp .eql 42 (.slice (some ad) m cap) (.slice none 0 0)).run Tryz.prog w = .ok (.bool false) w := fun _ => rfl
    go_enter Tryz.func53, Tryz.ntmps53
    have E := (Has.nil (Below.refl w.heap.size w)).push [] 37
    have hO : Own w.heap.size (w.alloc (.cells #[] 37)) (.slice (some ⟨w.heap.size, 0, none⟩) 0 0) [] := World.ownsRow_lit w #[] 0 (Nat.le_refl _) (by simp [maxLen]) rfl
    go_wp2_with (at_builtin; refine wpList_append_pts rfl _ _ rfl rfl hO rfl (HV.out.later E.low) (by simp [HM.out]; omega) (by simp) ?_)
    intro u w2 hO2 hG
    go_wp2_with fail
    go_ret
    exact ⟨_, rfl, hO2, E.low.grown hG E.low.size (fun k e => by simp [Value.ownBlock] at e; omega)⟩

set_option linter.unusedSimpArgs false in
set_option maxRecDepth 100000 in
set_option maxHeartbeats 4000000 in
theorem reverse_any (b : Nat) (v : Value) (ps : List (Int × Int)) (w : World) (hO : Own b w v ps) (hb : b ≤ w.heap.size) (hn : ps.length ≤ 1000) :
    Calls Tryz.prog 54 #[v] w fun e w' => (∃ x, e = .returned x) ∧ Own b w' v ps.reverse ∧ Below b w w' := by
  by_cases h0 : ps.length = 0
  · have e0 : ps = [] := List.eq_nil_of_length_eq_zero h0
    subst e0
    obtain ⟨a, cap, rfl, -, -, -⟩ := hO.row
    have HO := Lib.hid hO
    clear hO
    simp only [List.length_nil]
    go_enter Tryz.func54, Tryz.ntmps54
    go_wp2_with fail
    go_loopw [2, 3] (fun i j wr => i = .int .i64 0 ∧ j = .int .i64 (-1) ∧ wr = w) (fun _ _ _ => 0)
    case atStart => exact ⟨rfl, rfl, rfl⟩
    case round =>
      obtain ⟨rfl, rfl, rfl⟩ := hrel
      go_wp2_with fail
      go_end0
      exact ⟨⟨_, rfl⟩, HO.out, Below.refl _ _⟩
  · obtain ⟨g, cap, rfl, hbg, hgl⟩ := hO.form (by omega)
    obtain ⟨n, hm⟩ : ∃ n, ps.length = n + 1 := ⟨ps.length - 1, by omega⟩
    rw [hm] at hO ⊢
    have HO := Lib.hid hO
    have HM := Lib.hid hm
    have hn2 : n ≤ 1000 := by omega
    clear hO hm h0 hn
    have s1 : ((n : Int) + 1 - 1) = (n : Int) := by omega
    have s2 : IntKind.i64.wrap ((n : Int) + 1 - 1) = (n : Int) := by rw [IntWalk.i64_in _ (by omega)]; omega
    go_enter Tryz.func54, Tryz.ntmps54
    go_wp2_with fail
    go_loopw [2, 3] (fun i j wr => ∃ (k : Nat) (L : List (Int × Int)), k + k ≤ n + 1 ∧ i = .int .i64 k ∧ j = .int .i64 ((n : Int) - k) ∧ Hid (RevI ps L k) ∧ Own b wr (.slice (some ⟨g, 0, none⟩) (n + 1) cap) L ∧ Below b w wr) (fun i _ _ => n + 1 - (RowKit.intOf i).toNat)
    case atStart => exact ⟨0, ps, by omega, rfl, by simp, Lib.hid (RevI.start ps), HO.out, Below.refl _ _⟩
    case round =>
      obtain ⟨k, L, hk, rfl, rfl, HI, hL, hB⟩ := hrel
      by_cases hlt : k + k < n
      · have hLl := HI.out.1
        obtain ⟨x, y, hp⟩ := some_pt (ps := L) (k := k) (by rw [hLl, HM.out]; omega)
        obtain ⟨x', y', hq⟩ := some_pt (ps := L) (k := n - k) (by rw [hLl, HM.out]; omega)
        obtain ⟨c0, c1⟩ := hL.row.cells hp
        obtain ⟨c2, c3⟩ := hL.row.cells hq
        obtain ⟨j, hj⟩ : ∃ j : Nat, n - k = j := ⟨_, rfl⟩
        have ej : (n : Int) - k = (j : Int) := by omega
        have f0 := hL.frozen (k * 2)
        have f1 := hL.frozen (k * 2 + 1)
        have f2 := hL.frozen (j * 2)
        have f3 := hL.frozen (j * 2 + 1)
        have HN := Lib.hid (RevI.next HI.out (by rw [HM.out]; omega) hp (q := (x', y')) (by rw [HM.out, ← hq]; congr 1))
        rw [hj] at c2 c3
        rw [Nat.zero_add] at c0 c1 c2 c3
        rw [show ps.length - 1 - k = j by rw [HM.out]; omega] at HN
        have hw := (hL.set k x' y').set j x y
        have ne1 : k * 2 ≠ j * 2 := by omega
        have ne2 : k * 2 ≠ j * 2 + 1 := by omega
        have ne3 : k * 2 + 1 ≠ j * 2 := by omega
        have ne4 : k * 2 + 1 ≠ j * 2 + 1 := by omega
        have HW := Lib.hid hw
        have b1 : (k : Int) < n + 1 := by omega
        have b2 : (0 : Int) ≤ k := by omega
        have b3 : (j : Int) < n + 1 := by omega
        have b4 : (0 : Int) ≤ j := by omega
        have b5 : (k : Int) < j := by omega
        have wk : IntKind.i64.wrap ((k : Int) + 1) = ((k + 1 : Nat) : Int) := by rw [IntWalk.i64_in _ (by omega)]; rfl
        have wj : IntKind.i64.wrap ((j : Int) - 1) = (n : Int) - ((k + 1 : Nat) : Int) := by rw [IntWalk.i64_in _ (by omega)]; omega
        clear hp hq hLl hw
        rw [ej]
        go_wp2_with fail
        go_region
        go_wp2_with fail
        go_roundw
        case rel => exact ⟨k + 1, _, by omega, by go_num, rfl, HN, Own.later HW.out ((Below.refl _ _).drew), (Below.setCell (Below.setCell (Below.setCell (Below.setCell hB hbg _) hbg _) hbg _) hbg _).trans ((Below.refl _ _).drew)⟩
        case measure => simp [RowKit.intOf]; omega
      · go_wp2_with fail
        go_end0
        exact ⟨⟨_, rfl⟩, by rw [← HI.out.last (by rw [HM.out]; omega)]; exact hL, hB⟩

theorem lreverse_any (v : Value) (ps : List (Int × Int)) (w : World) (hv : RowP w v ps) (hn : ps.length ≤ 1000) :
    Calls Tryz.prog 27 #[v] w fun e w' => ∃ u, e = .returned u ∧ Own w.heap.size w' u ps.reverse ∧ Below w.heap.size w w' := by
  have HV := Lib.hid hv
  clear hv
  go_enter Tryz.func27, Tryz.ntmps27
  go_wp2_with fail
  refine (clone_any v ps w HV.out hn).mono ?_
  rintro e w1 ⟨u, rfl, hO, hB⟩
  go_wp2_with fail
  refine (reverse_any w.heap.size u ps w1 hO hB.size hn).mono ?_
  rintro e w2 ⟨⟨x, rfl⟩, hO2, hB2⟩
  go_wp2_with fail
  go_ret
  exact ⟨_, rfl, hO2, hB.trans hB2⟩


end Go.Proofs.YtoaldbjcpfkcjaaGreat
