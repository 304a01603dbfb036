/- ExactLowest: the walk. -/
import Derived.Test.YtghlhipphmhjhaaSane
import Derived.Test.YtghlhipphmhjhaaRoots
import Derived.Deep.DeepCutAuto
import Derived.Deep.CutBlock
namespace Go.Proofs.Ytghlhipphmhjhaa
open Go.RowKit Go.Lib

/-- A list of pairs of ints, each in its range. -/
def Pairs (L : List Value) (n : Nat) : Prop := ∀ k, k < n → ∃ x y : Int, L[k * 2]? = some (.int .i64 x) ∧ L[k * 2 + 1]? = some (.int .i64 y) ∧ (-9223372036854775808 ≤ x ∧ x ≤ 9223372036854775807) ∧ (-9223372036854775808 ≤ y ∧ y ≤ 9223372036854775807)
theorem five {a b c d : Int} (ha : -9223372036854775808 ≤ a ∧ a ≤ 9223372036854775807) (hb : -9223372036854775808 ≤ b ∧ b ≤ 9223372036854775807) (hc : -9223372036854775808 ≤ c ∧ c ≤ 9223372036854775807) (hd : -9223372036854775808 ≤ d ∧ d ≤ 9223372036854775807) :
    Pairs [.int .i64 a, .int .i64 b, .int .i64 c, .int .i64 d, .int .i64 a, .int .i64 0, .int .i64 (-9223372036854775808), .int .i64 b, .int .i64 a, .int .i64 9223372036854775807] 5 := by
  intro k hk
  match k, hk with
  | 0, _ => exact ⟨a, b, rfl, rfl, ha, hb⟩
  | 1, _ => exact ⟨c, d, rfl, rfl, hc, hd⟩
  | 2, _ => exact ⟨a, 0, rfl, rfl, ha, by omega⟩
  | 3, _ => exact ⟨_, b, rfl, rfl, by omega, hb⟩
  | 4, _ => exact ⟨a, _, rfl, rfl, ha, by omega⟩

set_option maxRecDepth 100000 in
set_option maxHeartbeats 1000000 in
theorem lows_walk (a b f : Int) (w : World) (ha : -9223372036854775808 ≤ a ∧ a ≤ 9223372036854775807) (hb : -9223372036854775808 ≤ b ∧ b ≤ 9223372036854775807) :
    Calls Try.prog 7 #[.int .i64 a, .int .i64 b, .int .i64 f] w fun e w' => e = .returned (.bool true) ∧ Below w.heap.size w w' := by
  go_enter Try.func7, Try.ntmps7
  go_wp2_with fail
  refine (sane _).mono ?_
  rintro en w1 ⟨rfl, hb1⟩
  go_wp2_with fail
  obtain ⟨L, hL⟩ : ∃ L : List Value, L = [.int .i64 a, .int .i64 b, .int .i64 (wrap64 (a.tmod 1099511627776 * f.tmod 1048576)), .int .i64 (wrap64 (b.tmod 1099511627776 * f.tmod 1048576)), .int .i64 a, .int .i64 0, .int .i64 (-9223372036854775808), .int .i64 b, .int .i64 a, .int .i64 9223372036854775807] := ⟨_, rfl⟩
  have hP : Pairs L 5 := hL ▸ five ha hb (wrap64_bd _) (wrap64_bd _)
  have t := Cells.made w1 L 37
  have hB := hb1.alloc hb1.size (.cells L.toArray 37)
  have hW : w1.alloc (.cells L.toArray 37) = w1.alloc (.cells #[.int .i64 a, .int .i64 b, .int .i64 (wrap64 (a.tmod 1099511627776 * f.tmod 1048576)), .int .i64 (wrap64 (b.tmod 1099511627776 * f.tmod 1048576)), .int .i64 a, .int .i64 0, .int .i64 (-9223372036854775808), .int .i64 b, .int .i64 a, .int .i64 9223372036854775807] 37) := by rw [hL]
  rw [← hW]
  have hs : w1.heap.size < (w1.alloc (.cells L.toArray 37)).heap.size := by simp
  have hs0 := hb1.size
  clear hL hW hb1
  generalize w1.alloc (.cells L.toArray 37) = w2 at *
  generalize w1.heap.size = B at *
  go_loopw [37] (fun v wr => ∃ k : Nat, k ≤ 5 ∧ v = .int .i64 (k : Int) ∧ Cells wr B L ∧ B < wr.heap.size ∧ Below w.heap.size w wr) (fun v _ => 5 - (intOf v).toNat)
  case atStart => exact ⟨0, by omega, rfl, t, hs, hB⟩
  case round =>
    clear t hs hB
    obtain ⟨k, hk, rfl, t, hs, hB⟩ := hrel
    by_cases hlt : k < 5
    · obtain ⟨x, y, l1, l2, bx, by'⟩ := hP k hlt
      have c1 := (t.get _ l1).1
      have c2 := (t.get _ l2).1
      clear l1 l2
      go_upto_region 6 with fail
      have bo := Cells.made wr [.int .i64 x, .int .i64 y] 37
      have t1 := t.alloc hs (.cells #[.int .i64 x, .int .i64 y] 37)
      have hB1 := hB.alloc hB.size (.cells #[.int .i64 x, .int .i64 y] 37)
      have hs1 : wr.heap.size < (wr.alloc (.cells #[.int .i64 x, .int .i64 y] 37)).heap.size := by simp
      generalize wr.alloc (.cells #[.int .i64 x, .int .i64 y] 37) = w3 at *
      generalize wr.heap.size = X at *
      clear c1 c2 t hB
      have c1 := (bo.get 0 rfl).1
      have c2 := (bo.get 1 rfl).1
      go_wp2_with fail
      refine (lowest_all x y _ bx by').mono ?_
      rintro en w4 ⟨rfl, hb4⟩
      have bo4 := bo.later hb4 hs1
      have t4 := t1.later hb4 (by omega)
      have hB4 := hB1.trans (hb4.mono hB1.size)
      have hs4 : X < w4.heap.size := by have := hb4.size; omega
      clear c1 c2 bo t1 hB1 hs1 hb4
      generalize hP' : lowN x y = P at *
      generalize hQ' : lowD x y = Q at *
      generalize hR' : lowIs y = R at *
      have HP := Lib.hid hP'
      have HQ := Lib.hid hQ'
      have HR := Lib.hid hR'
      clear hP' hQ' hR'
      go_upto_region 7 with fail
      have pb := Cells.made w4 [.int .i64 P, .int .i64 Q] 27
      have bo5 := bo4.alloc hs4 (.cells #[.int .i64 P, .int .i64 Q] 27)
      have t5 := t4.alloc (by omega) (.cells #[.int .i64 P, .int .i64 Q] 27)
      have hB5 := hB4.alloc hB4.size (.cells #[.int .i64 P, .int .i64 Q] 27)
      have hs5 : w4.heap.size < (w4.alloc (.cells #[.int .i64 P, .int .i64 Q] 27)).heap.size := by simp
      generalize w4.alloc (.cells #[.int .i64 P, .int .i64 Q] 27) = w5 at *
      generalize w4.heap.size = Y at *
      clear bo4 t4 hB4
      have c1 := (bo5.get 0 rfl).1
      have c2 := (bo5.get 1 rfl).1
      go_wp2_with fail
      refine (rlowest_all x y _ bx by').mono ?_
      rintro en w6 ⟨rfl, hb6⟩
      have bo6 := bo5.later hb6 (by omega)
      have t6 := t5.later hb6 (by omega)
      have pb6 := pb.later hb6 hs5
      have hB6 := hB5.trans (hb6.mono hB5.size)
      have hs6 : Y < w6.heap.size := by have := hb6.size; omega
      clear c1 c2 bo5 t5 pb hB5 hs5 hb6
      rw [HP.out, HQ.out, HR.out]
      go_upto_region 8 with fail
      have qb := Cells.made w6 [.int .i64 P, .int .i64 Q] 27
      have bo7 := bo6.alloc (by omega) (.cells #[.int .i64 P, .int .i64 Q] 27)
      have pb7 := pb6.alloc hs6 (.cells #[.int .i64 P, .int .i64 Q] 27)
      have t7 := t6.alloc (by omega) (.cells #[.int .i64 P, .int .i64 Q] 27)
      have hB7 := hB6.alloc hB6.size (.cells #[.int .i64 P, .int .i64 Q] 27)
      have hs7 : w6.heap.size < (w6.alloc (.cells #[.int .i64 P, .int .i64 Q] 27)).heap.size := by simp
      generalize w6.alloc (.cells #[.int .i64 P, .int .i64 Q] 27) = w7 at *
      generalize w6.heap.size = Z at *
      clear bo6 t6 pb6 hB6
      have c1 := (bo7.get 0 rfl).1
      have c2 := (bo7.get 1 rfl).1
      have c3 := (pb7.get 0 rfl).1
      have c4 := (pb7.get 1 rfl).1
      have c5 := (qb.get 0 rfl).1
      have c6 := (qb.get 1 rfl).1
      go_quiet ((first | (go_at_call 19; exact Calls.quiet_of (gcd_q _ _ _ bx by')) | (go_at_call 20; exact Calls.quiet_of (rgcd_q _ _ _ bx by'))))
      go_wp2_with fail
      go_round
      case rel => exact ⟨k + 1, by omega, by go_num, t7.drewN nq, by show B < w7.heap.size; omega, below_drewN hB7 nq⟩
      case measure => simp [intOf]; omega
    · obtain rfl : k = 5 := by omega
      go_wp2_with fail
      go_ret
      exact ⟨rfl, hB⟩

end Go.Proofs.Ytghlhipphmhjhaa
