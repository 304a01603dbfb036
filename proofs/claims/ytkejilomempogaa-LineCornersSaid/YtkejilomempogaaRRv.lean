/- Lists in the opposite order. The reference: lists in the opposite order. -/
import Derived.Test.YtkejilomempogaaOw
namespace Go.Proofs.Ytkejilomempogaa
open Go.RowKit Go.Lib

set_option maxRecDepth 100000 in
set_option maxHeartbeats 2000000 in
theorem clone_any (v : Value) (ps : List (Int × Int)) (w : World) (hv : RowP w v ps) (hn : ps.length ≤ 1000) :
    Calls Try.prog 46 #[v] w fun e w' => ∃ u, e = .returned u ∧ Own w.heap.size w' u ps ∧ Below w.heap.size w w' := by
  have hv0 := hv
  obtain ⟨a, cap, rfl, hc1, hc2, hq⟩ := hv0
  rcases a with _ | ad
  · have h0 : ps = [] := by
      rcases hq with h | ⟨b, o, h, _⟩
      · exact h
      · cases h
    subst h0
    clear hv hq
    have he : ∀ w : World, (binOp .eql 23 (.slice none 0 cap) (.slice none 0 0)).run Try.prog w = .ok (.bool true) w := fun _ => rfl
    simp only [List.length_nil]
    go_enter Try.func46, Try.ntmps46
    go_wp2_with fail
    go_ret
    exact ⟨_, rfl, Own.nil _ _, by go_grown⟩
  · obtain ⟨m, hm⟩ : ∃ m, ps.length = m := ⟨_, rfl⟩
    have HV := Lib.hid hv
    rw [hm] at hn hc1 ⊢
    rw [hm] at HV
    have HM := Lib.hid hm
    clear hv hq hm
    have he : ∀ w : World, (binOp .eql 23 (.slice (some ad) m cap) (.slice none 0 0)).run Try.prog w = .ok (.bool false) w := fun _ => rfl
    go_enter Try.func46, Try.ntmps46
    have E := (Has.nil (Below.refl w.heap.size w)).push [] 36
    have hO : Own w.heap.size (w.alloc (.cells #[] 36)) (.slice (some ⟨w.heap.size, 0, none⟩) 0 0) [] := World.ownsRow_lit w #[] 0 (Nat.le_refl _) (by simp [maxLen]) rfl
    go_wp2_with (at_builtin; refine wpList_append_pts rfl _ _ rfl rfl hO rfl (HV.out.later E.low) (by simp [HM.out]; omega) (by simp) ?_)
    intro u w2 hO2 hG
    go_wp2_with fail
    go_ret
    exact ⟨_, rfl, hO2, E.low.grown hG E.low.size (fun k e => by simp [Value.ownBlock] at e; omega)⟩

/-- How a list stands when its first and last i points were exchanged. -/
def RevI (ps L : List (Int × Int)) (i : Nat) : Prop := L.length = ps.length ∧ ∀ k, k < ps.length → L[k]? = if k < i ∨ ps.length - i ≤ k then ps[ps.length - 1 - k]? else ps[k]?
theorem RevI.start (ps : List (Int × Int)) : RevI ps ps 0 := ⟨rfl, fun k hk => by rw [if_neg (by omega)]⟩
theorem RevI.next {ps L : List (Int × Int)} {i : Nat} {p q : Int × Int} (h : RevI ps L i) (hi : i + i + 1 < ps.length) (hp : L[i]? = some p) (hq : L[ps.length - 1 - i]? = some q) : RevI ps ((L.set i q).set (ps.length - 1 - i) p) (i + 1) := by
  obtain ⟨hl, hk⟩ := h
  refine ⟨by simp [hl], fun k hkn => ?_⟩
  have h1 := hk i (by omega)
  have h2 := hk (ps.length - 1 - i) (by omega)
  rw [if_neg (by omega), hp] at h1
  rw [if_neg (by omega), hq] at h2
  by_cases e2 : k = ps.length - 1 - i
  · subst e2
    rw [List.getElem?_set_self (by simp; omega), if_pos (by omega), h1]
    congr 1
    omega
  · rw [List.getElem?_set_ne (by omega)]
    by_cases e1 : k = i
    · subst e1
      rw [List.getElem?_set_self (by omega), if_pos (by omega), h2]
    · rw [List.getElem?_set_ne (by omega), hk k hkn]
      by_cases c : k < i ∨ ps.length - i ≤ k
      · rw [if_pos c, if_pos (by omega)]
      · rw [if_neg c, if_neg (by omega)]
theorem RevI.last {ps L : List (Int × Int)} {i : Nat} (h : RevI ps L i) (hi : ps.length ≤ i + i + 1) : L = ps.reverse := by
  obtain ⟨hl, hk⟩ := h
  apply List.ext_getElem?
  intro k
  by_cases hkn : k < ps.length
  · rw [hk k hkn, List.getElem?_reverse hkn]
    by_cases c : k < i ∨ ps.length - i ≤ k
    · rw [if_pos c]
    · rw [if_neg c]
      congr 1
      omega
  · rw [List.getElem?_eq_none (by omega), List.getElem?_eq_none (by simp; omega)]
theorem flat_set (L : List (Int × Int)) (i : Nat) (x y : Int) : ((flat L).set (i * 2) (.int .i64 x)).set (i * 2 + 1) (.int .i64 y) = flat (L.set i (x, y)) := by
  induction L generalizing i with
  | nil => simp [flat]
  | cons p t ih =>
    cases i with
    | zero => simp [flat]
    | succ i =>
      have := ih i
      rw [show (i + 1) * 2 = i * 2 + 1 + 1 by omega]
      simp only [flat, List.set_cons_succ, this]
theorem Own.set {b g c n : Nat} {w : World} {L : List (Int × Int)} (h : Own b w (.slice (some ⟨g, 0, none⟩) n c) L) (i : Nat) (x y : Int) :
    Own b ((w.setCell ⟨g, i * 2, none⟩ (.int .i64 x)).setCell ⟨g, i * 2 + 1, none⟩ (.int .i64 y)) (.slice (some ⟨g, 0, none⟩) n c) (L.set i (x, y)) := by
  unfold Own at *
  rw [List.length_set, ← flat_set]
  have e : n = L.length := by
    rcases h.2 with ⟨h2, _⟩ | ⟨k, cap, cur, h2, -⟩
    · cases h2
    · injection h2
  subst e
  exact (World.ownsRow.stored (World.ownsRow.stored h _ _).1 _ _).1
theorem Own.form {b : Nat} {w : World} {v : Value} {L : List (Int × Int)} (h : Own b w v L) (hl : 0 < L.length) : ∃ g c, v = .slice (some ⟨g, 0, none⟩) L.length c ∧ b ≤ g ∧ g < w.heap.size := by
  rcases h.2 with ⟨_, h2⟩ | ⟨k, cap, cur, rfl, h2, h3, -⟩
  · omega
  · exact ⟨k, cap, rfl, h2, (Array.getElem?_eq_some_iff.1 h3).1⟩
theorem Own.frozen {b g c n : Nat} {w : World} {L : List (Int × Int)} (h : Own b w (.slice (some ⟨g, 0, none⟩) n c) L) (j : Nat) : w.frozen? ⟨g, j, none⟩ = false := by
  rcases h.2 with ⟨h', _⟩ | ⟨g', cap', cur, h', _, hg, _⟩
  · cases h'
  · injection h' with e1 e2 e3
    injection e1 with e1
    injection e1 with e1
    subst e1
    exact frozen_of_row w g j cur 36 hg
set_option linter.unusedSimpArgs false in
set_option maxRecDepth 100000 in
set_option maxHeartbeats 4000000 in
theorem reverse_any (b : Nat) (v : Value) (ps : List (Int × Int)) (w : World) (hO : Own b w v ps) (hb : b ≤ w.heap.size) (hn : ps.length ≤ 1000) :
    Calls Try.prog 47 #[v] w fun e w' => (∃ x, e = .returned x) ∧ Own b w' v ps.reverse ∧ Below b w w' := by
  by_cases h0 : ps.length = 0
  · have e0 : ps = [] := List.eq_nil_of_length_eq_zero h0
    subst e0
    obtain ⟨a, cap, rfl, -, -, -⟩ := hO.row
    have HO := Lib.hid hO
    clear hO
    simp only [List.length_nil]
    go_enter Try.func47, Try.ntmps47
    go_wp2_with fail
    go_loopw [2, 3] (fun i j wr => i = .int .i64 0 ∧ j = .int .i64 (-1) ∧ wr = w) (fun _ _ _ => 0)
    case atStart => exact ⟨rfl, rfl, rfl⟩
    case round =>
      obtain ⟨rfl, rfl, rfl⟩ := hrel
      go_wp2_with fail
      go_end0
      exact ⟨⟨_, rfl⟩, HO.out, Below.refl _ _⟩
  · obtain ⟨g, cap, rfl, hbg, hgl⟩ := hO.form (by omega)
    obtain ⟨n, hm⟩ : ∃ n, ps.length = n + 1 := ⟨ps.length - 1, by omega⟩
    rw [hm] at hO ⊢
    have HO := Lib.hid hO
    have HM := Lib.hid hm
    have hn2 : n ≤ 1000 := by omega
    clear hO hm h0 hn
    have s1 : ((n : Int) + 1 - 1) = (n : Int) := by omega
    have s2 : IntKind.i64.wrap ((n : Int) + 1 - 1) = (n : Int) := by rw [IntWalk.i64_in _ (by omega)]; omega
    go_enter Try.func47, Try.ntmps47
    go_wp2_with fail
    go_loopw [2, 3] (fun i j wr => ∃ (k : Nat) (L : List (Int × Int)), k + k ≤ n + 1 ∧ i = .int .i64 k ∧ j = .int .i64 ((n : Int) - k) ∧ Hid (RevI ps L k) ∧ Own b wr (.slice (some ⟨g, 0, none⟩) (n + 1) cap) L ∧ Below b w wr) (fun i _ _ => n + 1 - (RowKit.intOf i).toNat)
    case atStart => exact ⟨0, ps, by omega, rfl, by simp, Lib.hid (RevI.start ps), HO.out, Below.refl _ _⟩
    case round =>
      obtain ⟨k, L, hk, rfl, rfl, HI, hL, hB⟩ := hrel
      by_cases hlt : k + k < n
      · have hLl := HI.out.1
        obtain ⟨x, y, hp⟩ := some_pt (ps := L) (k := k) (by rw [hLl, HM.out]; omega)
        obtain ⟨x', y', hq⟩ := some_pt (ps := L) (k := n - k) (by rw [hLl, HM.out]; omega)
        obtain ⟨c0, c1⟩ := hL.row.cells hp
        obtain ⟨c2, c3⟩ := hL.row.cells hq
        obtain ⟨j, hj⟩ : ∃ j : Nat, n - k = j := ⟨_, rfl⟩
        have ej : (n : Int) - k = (j : Int) := by omega
        have f0 := hL.frozen (k * 2)
        have f1 := hL.frozen (k * 2 + 1)
        have f2 := hL.frozen (j * 2)
        have f3 := hL.frozen (j * 2 + 1)
        have HN := Lib.hid (RevI.next HI.out (by rw [HM.out]; omega) hp (q := (x', y')) (by rw [HM.out, ← hq]; congr 1))
        rw [hj] at c2 c3
        rw [Nat.zero_add] at c0 c1 c2 c3
        rw [show ps.length - 1 - k = j by rw [HM.out]; omega] at HN
        have hw := (hL.set k x' y').set j x y
        have ne1 : k * 2 ≠ j * 2 := by omega
        have ne2 : k * 2 ≠ j * 2 + 1 := by omega
        have ne3 : k * 2 + 1 ≠ j * 2 := by omega
        have ne4 : k * 2 + 1 ≠ j * 2 + 1 := by omega
        have HW := Lib.hid hw
        have b1 : (k : Int) < n + 1 := by omega
        have b2 : (0 : Int) ≤ k := by omega
        have b3 : (j : Int) < n + 1 := by omega
        have b4 : (0 : Int) ≤ j := by omega
        have b5 : (k : Int) < j := by omega
        have wk : IntKind.i64.wrap ((k : Int) + 1) = ((k + 1 : Nat) : Int) := by rw [IntWalk.i64_in _ (by omega)]; rfl
        have wj : IntKind.i64.wrap ((j : Int) - 1) = (n : Int) - ((k + 1 : Nat) : Int) := by rw [IntWalk.i64_in _ (by omega)]; omega
        clear hp hq hLl hw
        rw [ej]
        go_wp2_with fail
        go_region
        go_wp2_with fail
        go_roundw
        case rel => exact ⟨k + 1, _, by omega, by go_num, rfl, HN, Own.later HW.out ((Below.refl _ _).drew), (Below.setCell (Below.setCell (Below.setCell (Below.setCell hB hbg _) hbg _) hbg _) hbg _).trans ((Below.refl _ _).drew)⟩
        case measure => simp [RowKit.intOf]; omega
      · go_wp2_with fail
        go_end0
        exact ⟨⟨_, rfl⟩, by rw [← HI.out.last (by rw [HM.out]; omega)]; exact hL, hB⟩

theorem lreverse_any (v : Value) (ps : List (Int × Int)) (w : World) (hv : RowP w v ps) (hn : ps.length ≤ 1000) :
    Calls Try.prog 19 #[v] w fun e w' => ∃ u, e = .returned u ∧ Own w.heap.size w' u ps.reverse ∧ Below w.heap.size w w' := by
  have HV := Lib.hid hv
  clear hv
  go_enter Try.func19, Try.ntmps19
  go_wp2_with fail
  refine (clone_any v ps w HV.out hn).mono ?_
  rintro e w1 ⟨u, rfl, hO, hB⟩
  go_wp2_with fail
  refine (reverse_any w.heap.size u ps w1 hO hB.size hn).mono ?_
  rintro e w2 ⟨⟨x, rfl⟩, hO2, hB2⟩
  go_wp2_with fail
  go_ret
  exact ⟨_, rfl, hO2, hB.trans hB2⟩


end Go.Proofs.Ytkejilomempogaa

namespace Go.Proofs.Ytkejilomempogaa
open Go.RowKit Go.Lib

theorem grow_append {w W W' : World} {b : Nat} {v : Value} {ps : List (Int × Int)} (h : Grows w W) (ho : Own b W v ps) (hb : w.heap.size ≤ b) (hg : W.grownBy W' v.ownBlock) : Grows w W' :=
  Below.grown h hg h.size (fun k e => Nat.le_trans hb (World.ownsRow.lt ho k e).1)
theorem rev_next {ps : List (Int × Int)} {k : Nat} (h : k < ps.length) : ps.reverse.take (k + 1) = ps.reverse.take k ++ [pt ps (ps.length - 1 - k)] := by
  rw [List.take_add_one, List.getElem?_reverse h, at_pt (by omega)]
  rfl
set_option linter.unusedSimpArgs false in
set_option maxRecDepth 100000 in
set_option maxHeartbeats 4000000 in
theorem rreverse_any (v : Value) (ps : List (Int × Int)) (w : World) (hv : RowP w v ps) (hn : ps.length ≤ 1000) :
    Calls Try.prog 20 #[v] w fun e w' => ∃ u, e = .returned u ∧ Own w.heap.size w' u ps.reverse ∧ Below w.heap.size w w' := by
  have hv0 := hv
  obtain ⟨a, cap, rfl, hc1, hc2, -⟩ := hv0
  obtain ⟨m, hm⟩ : ∃ m, ps.length = m := ⟨_, rfl⟩
  rw [hm] at hv hc1 hn ⊢
  have HV := Lib.hid hv
  have HM := Lib.hid hm
  clear hv hm
  have s2 : IntKind.i64.wrap ((m : Int) - 1) = (m : Int) - 1 := by rw [IntWalk.i64_in _ (by omega)]
  go_enter Try.func20, Try.ntmps20
  go_wp2_with fail
  go_loopw [4, 3] (fun i u wr => ∃ k : Nat, k ≤ m ∧ i = .int .i64 ((m : Int) - 1 - k) ∧ Own w.heap.size wr u (ps.reverse.take k) ∧ Grows w wr) (fun i _ _ => (RowKit.intOf i + 1).toNat)
  case atStart => exact ⟨0, Nat.zero_le _, by simp, Own.nil _ _, Below.refl _ _⟩
  case round =>
    obtain ⟨k, hk, rfl, hO, hG⟩ := hrel
    by_cases hlt : k < m
    · have hR := HV.out.later hG
      obtain ⟨b, o, rfl, -⟩ := hR.spot (by rw [HM.out]; omega)
      obtain ⟨j, hj⟩ : ∃ j : Nat, m - 1 - k = j := ⟨_, rfl⟩
      have ej : (m : Int) - 1 - k = (j : Int) := by omega
      obtain ⟨x, y, hp⟩ := some_pt (ps := ps) (k := j) (by rw [HM.out]; omega)
      have hnx := rev_next (ps := ps) (k := k) (by rw [HM.out]; exact hlt)
      rw [HM.out, hj, pt_of hp] at hnx
      obtain ⟨c0, c1⟩ := hR.cells hp
      have HN := Lib.hid hnx
      have hlen : (ps.reverse.take k).length ≤ 1000 := by rw [List.length_take, List.length_reverse, HM.out]; omega
      clear hp hnx hR
      rw [ej]
      have b1 : (0 : Int) ≤ j := by omega
      have b2 : (j : Int) < m := by omega
      have wj : IntKind.i64.wrap ((j : Int) - 1) = (m : Int) - 1 - ((k + 1 : Nat) : Int) := by rw [IntWalk.i64_in _ (by omega)]; omega
      obtain ⟨C, R⟩ := one_row (Has.nil (Below.refl wr.heap.size wr)) rfl [(x, y)] (by simp)
      change RowP (wr.alloc (.cells #[.int .i64 x, .int .i64 y] 36)) _ _ at R
      have hO1 := hO.later ((Below.refl _ wr).alloc (Nat.le_refl _) (.cells #[.int .i64 x, .int .i64 y] 36))
      go_wp2_with (at_builtin; refine wpList_append_pts rfl _ _ rfl rfl hO1 rfl R (by simp; omega) (by simp; exact Nat.le_succ_of_le hG.size) ?_)
      intro u2 w2 hO2 hG2
      have hG3 := grow_append (hG.then C.low) hO1 (Nat.le_refl _) hG2
      rw [← HN.out] at hO2
      go_wp2_with fail
      go_roundw
      case rel => exact ⟨k + 1, by omega, rfl, hO2, hG3⟩
      case measure => simp [RowKit.intOf]; omega
    · obtain rfl : k = m := by omega
      have e1 : (k : Int) - 1 - k = -1 := by omega
      rw [e1]
      go_wp2_with fail
      go_ret
      exact ⟨_, rfl, by rw [List.take_of_length_le (by rw [List.length_reverse, HM.out]; exact Nat.le_refl _)] at hO; exact hO, hG⟩

end Go.Proofs.Ytkejilomempogaa
