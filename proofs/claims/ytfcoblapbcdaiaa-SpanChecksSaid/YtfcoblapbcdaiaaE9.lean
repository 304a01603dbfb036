/- The law's own small functions: a history cut short, what is in progress, the examples. -/
import Derived.Test.YtfcoblapbcdaiaaE8
namespace Go.Proofs.Ytfcoblapbcdaiaa
open Go.RowKit Go.Lib
attribute [local go_sem] Oper.semAt_some
def H3 : List Ev := [⟨0, 3, 0, 0, 0⟩, ⟨0, 5, 0, 0, 0⟩, ⟨0, 100, 0, 0, 0⟩]
def H2 : List Ev := [⟨0, 3, 0, 0, 0⟩, ⟨0, 3, 0, 0, 0⟩]
def H1 : List Ev := [⟨0, 0, 0, 0, 0⟩]
theorem row3 {w0 w : World} {bs : List (Nat × List Value)} {S : Nat} (C : Has w0 ((S, [.int .i64 0, .int .i64 3, .int .i64 0, .int .i64 0, .int .i64 0, .int .i64 0, .int .i64 5, .int .i64 0, .int .i64 0, .int .i64 0, .int .i64 0, .int .i64 100, .int .i64 0, .int .i64 0, .int .i64 0]) :: bs) w) : Row tE w (.slice (some ⟨S, 0, none⟩) 3 3) H3 := row_cells (T := tE) (xs := H3) (c := 3) (C.c _ (.head _)) (by decide) (by decide)
theorem row2 {w0 w : World} {bs : List (Nat × List Value)} {S : Nat} (C : Has w0 ((S, [.int .i64 0, .int .i64 3, .int .i64 0, .int .i64 0, .int .i64 0, .int .i64 0, .int .i64 3, .int .i64 0, .int .i64 0, .int .i64 0]) :: bs) w) : Row tE w (.slice (some ⟨S, 0, none⟩) 2 2) H2 := row_cells (T := tE) (xs := H2) (c := 2) (C.c _ (.head _)) (by decide) (by decide)
theorem row1 {w0 w : World} {bs : List (Nat × List Value)} {S : Nat} (C : Has w0 ((S, [.int .i64 0, .int .i64 0, .int .i64 0, .int .i64 0, .int .i64 0]) :: bs) w) : Row tE w (.slice (some ⟨S, 0, none⟩) 1 1) H1 := row_cells (T := tE) (xs := H1) (c := 1) (C.c _ (.head _)) (by decide) (by decide)
theorem take_min {L : Nat} (es : List Ev) (h : es.length = L) : es.take (min L 210) = es.take 210 := by
  subst h
  rcases Nat.le_total es.length 210 with g | g
  · rw [Nat.min_eq_left g, List.take_length, List.take_of_length_le g]
  · rw [Nat.min_eq_right g]
set_option linter.unusedSimpArgs false in
set_option maxRecDepth 100000 in
set_option maxHeartbeats 8000000 in
theorem cut_any (d : Int) (sl : Value) (es : List Ev) (w : World) (hv : Row tE w sl es) :
    Calls Try.prog 10 #[.agg #[.int .i64 d, sl]] w fun e w' => ∃ sl', e = .returned (.agg #[.int .i64 d, sl']) ∧ Row tE w' sl' (es.take 210) ∧ Below w.heap.size w w' := by
  have C := has2 (w := w) [.int .i64 d, sl] [.int .i64 0, .slice none 0 0] 25 25
  change Has w _ ((w.alloc (.cells #[.int .i64 d, sl] 25)).alloc (.cells #[.int .i64 0, .slice none 0 0] 25)) at C
  obtain ⟨a, L, c, rfl, hL, hc1, hc2, R⟩ := hv.form
  obtain ⟨m, hm⟩ : ∃ m : Nat, min L 210 = m := ⟨_, rfl⟩
  have HT := Lib.hid (show Row tE w (.slice a m c) (es.take 210) by
    have h := R.take m (by omega)
    rw [← hm, take_min es hL, hm] at h
    exact h)
  have hmL : (m : Int) ≤ L := by omega
  have hmc : (m : Int) ≤ c := by omega
  have hm0 : (0 : Int) ≤ m := by omega
  clear C
  rcases Nat.le_total L 210 with hle | hle
  · obtain rfl : m = L := by omega
    have g1 : (m : Int) ≤ 210 := by omega
    clear hm hle
    have Y := has2 (w := w) [.int .i64 d, .slice a m c] [.int .i64 d, .slice a m c] 25 25
    change Has w _ ((w.alloc (.cells #[.int .i64 d, .slice a m c] 25)).alloc (.cells #[.int .i64 d, .slice a m c] 25)) at Y
    go_enter Try.func10, Try.ntmps10
    go_wp2_with fail
    generalize (w.alloc (.cells #[.int .i64 d, .slice a m c] 25)).alloc (.cells #[.int .i64 d, .slice a m c] 25) = w3 at *
    obtain ⟨d1, d2⟩ := Y.tail.pt
    exact bodyPost_ret (v := .agg #[.int .i64 d, .slice a m c]) (by simp [results, Try.results10, go_sem, d1, d2]) rfl ⟨_, rfl, HT.out.later Y.low, Y.low⟩
  · obtain rfl : m = 210 := by omega
    have g1 : (210 : Int) ≤ L := by omega
    clear hm hle
    by_cases h210 : (L : Int) ≤ 210
    · obtain rfl : L = 210 := by omega
      clear h210
      have Y := has2 (w := w) [.int .i64 d, .slice a 210 c] [.int .i64 d, .slice a 210 c] 25 25
      change Has w _ ((w.alloc (.cells #[.int .i64 d, .slice a 210 c] 25)).alloc (.cells #[.int .i64 d, .slice a 210 c] 25)) at Y
      go_enter Try.func10, Try.ntmps10
      go_wp2_with fail
      generalize (w.alloc (.cells #[.int .i64 d, .slice a 210 c] 25)).alloc (.cells #[.int .i64 d, .slice a 210 c] 25) = w3 at *
      obtain ⟨d1, d2⟩ := Y.tail.pt
      exact bodyPost_ret (v := .agg #[.int .i64 d, .slice a 210 c]) (by simp [results, Try.results10, go_sem, d1, d2]) rfl ⟨_, rfl, HT.out.later Y.low, Y.low⟩
    · have Y := has2 (w := w) [.int .i64 d, .slice a 210 c] [.int .i64 d, .slice a 210 c] 25 25
      change Has w _ ((w.alloc (.cells #[.int .i64 d, .slice a 210 c] 25)).alloc (.cells #[.int .i64 d, .slice a 210 c] 25)) at Y
      go_enter Try.func10, Try.ntmps10
      go_wp2_with fail
      generalize (w.alloc (.cells #[.int .i64 d, .slice a 210 c] 25)).alloc (.cells #[.int .i64 d, .slice a 210 c] 25) = w3 at *
      obtain ⟨d1, d2⟩ := Y.tail.pt
      exact bodyPost_ret (v := .agg #[.int .i64 d, .slice a 210 c]) (by simp [results, Try.results10, go_sem, d1, d2]) rfl ⟨_, rfl, HT.out.later Y.low, Y.low⟩
set_option linter.unusedSimpArgs false in
set_option maxRecDepth 100000 in
set_option maxHeartbeats 8000000 in
theorem doing_yes (d : Int) (sl : Value) (es : List Ev) (s : Int) (k u z : Int) (w : World) (hs : -9223372036854775808 ≤ s ∧ s ≤ 9223372036854775807) (hv : Row tE w sl es)
    (hk : doK s es = k) (hu : doU s es = u) (hz : doW s es = z) (hi : doI s es = (z != 0)) :
    Calls Try.prog 25 #[.agg #[.int .i64 d, sl], .int .i64 s, .int .i64 k, .int .i64 u, .int .i64 z] w fun e w' => e = .returned (.bool true) ∧ Below w.heap.size w w' := by
  have C := has1 (w := w) [.int .i64 d, sl] 25
  change Has w _ (w.alloc (.cells #[.int .i64 d, sl] 25)) at C
  obtain ⟨a, L, c, rfl, hL, hc1, hc2, R⟩ := hv.form
  have HA := Lib.hid (show doA s es = .tuple #[.int .i64 k, .agg #[.int .i64 u, .int .i64 z], .bool (z != 0)] by unfold doA; rw [hk, hu, hz, hi])
  have HR := Lib.hid R
  clear hv R hk hu hz hi
  go_enter Try.func25, Try.ntmps25
  go_wp2_with fail
  generalize w.alloc (.cells #[.int .i64 d, .slice a L c] 25) = w1 at *
  have k0 := C.fact (.head _) (i := 0) rfl
  have k1 := C.fact (.head _) (i := 1) rfl
  simp only at k0 k1
  go_wp2_with fail
  refine (Has.call C (doing_any d _ es s _ hs (HR.out.later C.low))).mono ?_
  rintro e w2 ⟨rfl, C2⟩
  rw [HA.out]
  clear k0 k1
  have C3 := C2.push [.int .i64 u, .int .i64 z] 36
  change Has w _ (w2.alloc (.cells #[.int .i64 u, .int .i64 z] 36)) at C3
  obtain ⟨bz, hbz⟩ : ∃ b, (z != 0) = b := ⟨_, rfl⟩
  go_wp2_with fail
  generalize w2.alloc (.cells #[.int .i64 u, .int .i64 z] 36) = w3 at *
  generalize w2.heap.size = G at *
  obtain ⟨k0, k1⟩ := C3.pt
  go_wp2_with fail
  go_ret
  exact ⟨ret_b (by simp), C3.low⟩
end Go.Proofs.Ytfcoblapbcdaiaa
