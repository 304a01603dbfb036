/- lowest: a spot in lowest terms. -/
import Derived.Test.YtoehojopoajcaaaSpot
import Derived.IntWalk
namespace Go.Proofs.Ytoehojopoajcaaa
open Go.RowKit Go.Lib

/-- What the greatest common divisor leaves of a spot. -/
theorem ret_sp {a b c d e f : Int} (h : a = d) (k : b = e) (l : c = f) (t : Bool) : Ending.returned (.tuple #[.agg #[.int .i64 a, .int .i64 b, .int .i64 c], .bool t]) = .returned (.tuple #[.agg #[.int .i64 d, .int .i64 e, .int .i64 f], .bool t]) := by rw [h, k, l]

theorem gcdOf_I (a b : Int) : I64 (gcdOf a b) := by
  unfold gcdOf I64
  split
  · omega
  · omega

set_option maxHeartbeats 2000000 in
theorem lowest_any (x y z : Int) (w : World) (hx : I64 x) (hy : I64 y) (hz : 1 ≤ z ∧ z ≤ 9223372036854775807) :
    Calls Try.prog 58 #[.agg #[.int .i64 x, .int .i64 y, .int .i64 z]] w fun e w' => e = .returned (.agg #[.int .i64 (x.tdiv (gcdOf (gcdOf x y) z)), .int .i64 (y.tdiv (gcdOf (gcdOf x y) z)), .int .i64 (z / gcdOf (gcdOf x y) z)]) ∧ Below w.heap.size w w' := by
  obtain ⟨g1, g2, g3⟩ := gcdOf_bd (gcdOf x y) z hz
  have hI := gcdOf_I x y
  unfold I64 at hx hy hI
  clear g3
  generalize hF : gcdOf x y = F at *
  generalize hG : gcdOf F z = G at *
  have HF := Lib.hid hF
  have HG := Lib.hid hG
  clear hF hG
  have C0 := (has2 (w := w) [.int .i64 x, .int .i64 y, .int .i64 z] [.int .i64 0, .int .i64 0, .int .i64 0] 34 34).swap
  go_enter Try.func58, Try.ntmps58
  go_wp2_with fail
  change Has w _ ((w.alloc (.cells #[.int .i64 x, .int .i64 y, .int .i64 z] 34)).alloc (.cells #[.int .i64 0, .int .i64 0, .int .i64 0] 34)) at C0
  generalize (w.alloc (.cells #[.int .i64 x, .int .i64 y, .int .i64 z] 34)).alloc (.cells #[.int .i64 0, .int .i64 0, .int .i64 0] 34) = w1 at *
  have k0 := C0.tail.fact (.head _) (i := 0) rfl
  have k1 := C0.tail.fact (.head _) (i := 1) rfl
  have k2 := C0.tail.fact (.head _) (i := 2) rfl
  have K1 := Lib.hid (fun (W : World) => show Calls Try.prog 71 #[.int .i64 x, .int .i64 y] W (fun e w' => e = .returned (.int .i64 F) ∧ ∃ m, w' = W.drewN m) from HF.out ▸ gcd_q x y W (by omega) (by omega))
  have K2 := Lib.hid (fun (W : World) => show Calls Try.prog 71 #[.int .i64 F, .int .i64 z] W (fun e w' => e = .returned (.int .i64 G) ∧ ∃ m, w' = W.drewN m) from HG.out ▸ gcd_q F z W (by omega) (by omega))
  go_quiet ((first | (go_at_call 71; with_reducible exact Calls.quiet_of (K1.out _)) | (go_at_call 71; with_reducible exact Calls.quiet_of (K2.out _))))
  have C1 := C0.drewN nq
  clear k0 k1 k2 K1 K2
  have k0 := C1.tail.fact (.head _) (i := 0) rfl
  have k1 := C1.tail.fact (.head _) (i := 1) rfl
  have k2 := C1.tail.fact (.head _) (i := 2) rfl
  have g4 := C1.fact (.head _) (i := 0) rfl
  have g5 := C1.fact (.head _) (i := 1) rfl
  have g6 := C1.fact (.head _) (i := 2) rfl
  have f0 := C1.free (.head _) (i := 0) rfl
  have f1 := C1.free (.head _) (i := 1) rfl
  have f2 := C1.free (.head _) (i := 2) rfl
  generalize w1.drewN nq = w2 at *
  have e0 : (G == 0) = false := by rw [beq_eq_false_iff_ne]; omega
  have e1 : ¬ G = 0 := by omega
  go_wp2_with fail
  go_region
  have C3 := (C1.set3 (.int .i64 (x.tdiv G)) (.int .i64 (y.tdiv G)) (.int .i64 (z / G))).drew
  generalize (((World.setCell w2 ⟨w.heap.size + 1, 0, none⟩ (.int .i64 (x.tdiv G))).setCell ⟨w.heap.size + 1, 1, none⟩ (.int .i64 (y.tdiv G))).setCell ⟨w.heap.size + 1, 2, none⟩ (.int .i64 (z / G))).drew = w3 at *
  clear k0 k1 k2 g4 g5 g6
  have d0 := C3.fact (.head _) (i := 0) rfl
  have d1 := C3.fact (.head _) (i := 1) rfl
  have d2 := C3.fact (.head _) (i := 2) rfl
  go_wp2_with fail
  exact bodyPost_ret (v := .agg #[.int .i64 (x.tdiv G), .int .i64 (y.tdiv G), .int .i64 (z / G)]) (by simp [results, Try.results58, go_sem, d0, d1, d2]) rfl ⟨rfl, C3.low⟩

end Go.Proofs.Ytoehojopoajcaaa
