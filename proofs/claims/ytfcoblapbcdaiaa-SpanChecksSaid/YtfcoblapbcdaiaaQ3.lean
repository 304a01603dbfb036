/- A history cut short: which slice it has. -/
import Derived.Test.YtfcoblapbcdaiaaM2
namespace Go.Proofs.Ytfcoblapbcdaiaa
open Go.RowKit Go.Lib
attribute [local go_sem] Oper.semAt_some
set_option linter.unusedSimpArgs false in
set_option maxRecDepth 100000 in
set_option maxHeartbeats 8000000 in
theorem cut_is (d : Int) (a : Option Addr) (L c m : Nat) (w : World) (hm : min L 210 = m) (hc1 : L ≤ c) :
    Calls Try.prog 10 #[.agg #[.int .i64 d, .slice a L c]] w fun e w' => e = .returned (.agg #[.int .i64 d, .slice a m c]) ∧ Below w.heap.size w w' := by
  have hmL : (m : Int) ≤ L := by omega
  have hmc : (m : Int) ≤ c := by omega
  have hm0 : (0 : Int) ≤ m := by omega
  rcases Nat.le_total L 210 with hle | hle
  · obtain rfl : m = L := by omega
    have g1 : (m : Int) ≤ 210 := by omega
    clear hm hle
    have Y := has2 (w := w) [.int .i64 d, .slice a m c] [.int .i64 d, .slice a m c] 25 25
    change Has w _ ((w.alloc (.cells #[.int .i64 d, .slice a m c] 25)).alloc (.cells #[.int .i64 d, .slice a m c] 25)) at Y
    go_enter Try.func10, Try.ntmps10
    go_wp2_with fail
    generalize (w.alloc (.cells #[.int .i64 d, .slice a m c] 25)).alloc (.cells #[.int .i64 d, .slice a m c] 25) = w3 at *
    obtain ⟨d1, d2⟩ := Y.tail.pt
    exact bodyPost_ret (v := .agg #[.int .i64 d, .slice a m c]) (by simp [results, Try.results10, go_sem, d1, d2]) rfl ⟨rfl, Y.low⟩
  · obtain rfl : m = 210 := by omega
    have g1 : (210 : Int) ≤ L := by omega
    clear hm hle
    by_cases h210 : (L : Int) ≤ 210
    · obtain rfl : L = 210 := by omega
      clear h210
      have Y := has2 (w := w) [.int .i64 d, .slice a 210 c] [.int .i64 d, .slice a 210 c] 25 25
      change Has w _ ((w.alloc (.cells #[.int .i64 d, .slice a 210 c] 25)).alloc (.cells #[.int .i64 d, .slice a 210 c] 25)) at Y
      go_enter Try.func10, Try.ntmps10
      go_wp2_with fail
      generalize (w.alloc (.cells #[.int .i64 d, .slice a 210 c] 25)).alloc (.cells #[.int .i64 d, .slice a 210 c] 25) = w3 at *
      obtain ⟨d1, d2⟩ := Y.tail.pt
      exact bodyPost_ret (v := .agg #[.int .i64 d, .slice a 210 c]) (by simp [results, Try.results10, go_sem, d1, d2]) rfl ⟨rfl, Y.low⟩
    · have Y := has2 (w := w) [.int .i64 d, .slice a 210 c] [.int .i64 d, .slice a 210 c] 25 25
      change Has w _ ((w.alloc (.cells #[.int .i64 d, .slice a 210 c] 25)).alloc (.cells #[.int .i64 d, .slice a 210 c] 25)) at Y
      go_enter Try.func10, Try.ntmps10
      go_wp2_with fail
      generalize (w.alloc (.cells #[.int .i64 d, .slice a 210 c] 25)).alloc (.cells #[.int .i64 d, .slice a 210 c] 25) = w3 at *
      obtain ⟨d1, d2⟩ := Y.tail.pt
      exact bodyPost_ret (v := .agg #[.int .i64 d, .slice a 210 c]) (by simp [results, Try.results10, go_sem, d1, d2]) rfl ⟨rfl, Y.low⟩
end Go.Proofs.Ytfcoblapbcdaiaa
