/- The chapter's examples, as the laws ask them ahead of all else: they all come out true. -/
import Derived.Test.YtghlhipphmhjhaaFuns
import Derived.Test.YtghlhipphmhjhaaRoot
namespace Go.Proofs.Ytghlhipphmhjhaa
open Go.RowKit Go.Lib

set_option maxHeartbeats 400000 in
theorem low_any (n d m e : Int) (w : World) (ha : -9223372036854775808 ≤ n ∧ n ≤ 9223372036854775807) (hb : 1 ≤ d ∧ d ≤ 9223372036854775807) (h1 : n.tdiv (gcdOf n d) = m) (h2 : d / gcdOf n d = e) :
    Calls Try.prog 21 #[.int .i64 n, .int .i64 d, .int .i64 m, .int .i64 e] w fun en w' => en = .returned (.bool true) ∧ Below w.heap.size w w' := by
  have H1 := Lib.hid h1
  have H2 := Lib.hid h2
  clear h1 h2
  go_enter Try.func21, Try.ntmps21
  go_wp2_with fail
  refine (lowest_yes n d _ ha hb).mono ?_
  rintro en w1 ⟨rfl, hb1⟩
  rw [H1.out, H2.out]
  go_wp2_with fail
  go_ret
  exact ⟨rfl, hb1.alloc hb1.size _⟩

theorem sign2_is (a b c d r : Int) (hr : (a * b - c * d).sign = r) (w : World) (ha : -9223372036854775808 ≤ a ∧ a ≤ 9223372036854775807) (hb : -9223372036854775808 ≤ b ∧ b ≤ 9223372036854775807) (hc : -9223372036854775808 ≤ c ∧ c ≤ 9223372036854775807) (hd : -9223372036854775808 ≤ d ∧ d ≤ 9223372036854775807) :
    Calls Try.prog 10 #[.int .i64 a, .int .i64 b, .int .i64 c, .int .i64 d] w fun e w' => e = .returned (.int .i64 r) ∧ Below w.heap.size w w' := hr ▸ sign2_any a b c d w ha hb hc hd
theorem cmp_is (n d m e r : Int) (hr : cmpOf n d m e = r) (w : World) (ha : -9223372036854775808 ≤ n ∧ n ≤ 9223372036854775807) (hb : -9223372036854775808 ≤ d ∧ d ≤ 9223372036854775807) (hc : -9223372036854775808 ≤ m ∧ m ≤ 9223372036854775807) (hd : -9223372036854775808 ≤ e ∧ e ≤ 9223372036854775807) :
    Calls Try.prog 12 #[.agg #[.int .i64 n, .int .i64 d], .agg #[.int .i64 m, .int .i64 e]] w fun en w' => en = .returned (.int .i64 r) ∧ Below w.heap.size w w' := hr ▸ cmp_any n d m e w ha hb hc hd
theorem sqrt_is (n r : Int) (hr : rootOf n = r) (w : World) (hn : n ≤ 9223372036854775807) :
    Calls Try.prog 15 #[.int .i64 n] w fun e w' => e = .returned (.int .i64 r) ∧ w = w' := hr ▸ sqrt_any n w hn
theorem gcd_is (a b r : Int) (hr : gcdOf a b = r) (w : World) (ha : -9223372036854775808 ≤ a ∧ a ≤ 9223372036854775807) (hb : -9223372036854775808 ≤ b ∧ b ≤ 9223372036854775807) :
    Calls Try.prog 19 #[.int .i64 a, .int .i64 b] w fun e w' => e = .returned (.int .i64 r) ∧ Below w.heap.size w w' := hr ▸ gcd_any a b w ha hb

theorem root15 : rootOf 15 = 3 := (rootOf_is (n := 15) (s := 3) (by omega) (by omega)).symm
theorem root16 : rootOf 16 = 4 := (rootOf_is (n := 16) (s := 4) (by omega) (by omega)).symm
theorem rootNo : rootOf (-4) = 0 := (rootOf_neg (by omega)).symm
theorem rootMost : rootOf 9223372036854775807 = 3037000499 := (rootOf_is (n := 9223372036854775807) (s := 3037000499) (by omega) (by omega)).symm

set_option maxHeartbeats 1000000 in
theorem sane (w : World) : Calls Try.prog 9 #[] w fun en w' => en = .returned (.bool true) ∧ Below w.heap.size w w' := by
  go_enter Try.func9, Try.ntmps9
  go_wp2_with fail
  refine (sign2_is _ _ _ _ 0 (by decide +kernel) _ (by omega) (by omega) (by omega) (by omega)).mono ?_
  rintro en w1 ⟨rfl, hb1⟩
  go_wp2_with fail
  refine (sign2_is _ _ _ _ 1 (by decide +kernel) _ (by omega) (by omega) (by omega) (by omega)).mono ?_
  rintro en w2 ⟨rfl, hb2⟩
  go_wp2_with fail
  refine (sign2_is _ _ _ _ (-1) (by decide +kernel) _ (by omega) (by omega) (by omega) (by omega)).mono ?_
  rintro en w3 ⟨rfl, hb3⟩
  have hB3 : Below w.heap.size w w3 := (hb1.trans (hb2.mono hb1.size)).trans (hb3.mono (Nat.le_trans hb1.size hb2.size))
  clear hb1 hb2 hb3
  go_wp2_with fail
  refine (cmp_is _ _ _ _ 0 (by decide +kernel) _ (by omega) (by omega) (by omega) (by omega)).mono ?_
  rintro en w4 ⟨rfl, hb4⟩
  have t4 := (Cells.made w3 [.int .i64 1, .int .i64 3] 27).later hb4 (by simp)
  have s4 : w3.heap.size < w4.heap.size := by have := hb4.size; simp at this; omega
  have hB4 : Below w.heap.size w w4 := (hB3.alloc hB3.size _).trans (hb4.mono (by have := hB3.size; simp; omega))
  clear hb4
  have c1 := (t4.get 0 rfl).1
  have c2 := (t4.get 1 rfl).1
  go_wp2_with fail
  refine (cmp_is _ _ _ _ (-1) (by decide +kernel) _ (by omega) (by omega) (by omega) (by omega)).mono ?_
  rintro en w5 ⟨rfl, hb5⟩
  have t5 := t4.later hb5 s4
  have hB5 := hB4.trans (hb5.mono hB4.size)
  have s5 : w3.heap.size < w5.heap.size := by have := hb5.size; omega
  clear hb5
  have c3 := (t5.get 0 rfl).1
  have c4 := (t5.get 1 rfl).1
  go_wp2_with fail
  refine (cmp_is _ _ _ _ 0 (by decide +kernel) _ (by omega) (by omega) (by omega) (by omega)).mono ?_
  rintro en w6 ⟨rfl, hb6⟩
  have hB6 := hB5.trans (hb6.mono hB5.size)
  clear hb6
  go_wp2_with fail
  refine (sqrt_is _ _ root15 _ (by omega)).mono ?_
  rintro en w7 ⟨rfl, rfl⟩
  go_wp2_with fail
  refine (sqrt_is _ _ root16 _ (by omega)).mono ?_
  rintro en w7 ⟨rfl, rfl⟩
  go_wp2_with fail
  refine (sqrt_is _ _ rootNo _ (by omega)).mono ?_
  rintro en w7 ⟨rfl, rfl⟩
  go_wp2_with fail
  refine (sqrt_is _ _ rootMost _ (by omega)).mono ?_
  rintro en w7 ⟨rfl, rfl⟩
  go_wp2_with fail
  refine (gcd_is _ _ 6 (by decide +kernel) _ (by omega) (by omega)).mono ?_
  rintro en w8 ⟨rfl, hb8⟩
  have hB8 := hB6.trans (hb8.mono hB6.size)
  clear hb8
  go_wp2_with fail
  refine (gcd_is _ _ 5 (by decide +kernel) _ (by omega) (by omega)).mono ?_
  rintro en w9 ⟨rfl, hb9⟩
  have hB9 := hB8.trans (hb9.mono hB8.size)
  clear hb9
  go_wp2_with fail
  refine (gcd_is _ _ 1 (by decide +kernel) _ (by omega) (by omega)).mono ?_
  rintro en w10 ⟨rfl, hb10⟩
  have hB10 := hB9.trans (hb10.mono hB9.size)
  clear hb10
  go_wp2_with fail
  refine (lowest_no _ _ _ (by omega)).mono ?_
  rintro en w11 ⟨rfl, hb11⟩
  have hB11 := hB10.trans (hb11.mono hB10.size)
  clear hb11
  go_wp2_with fail
  refine (low_any _ _ _ _ _ (by omega) (by omega) (by decide +kernel) (by decide +kernel)).mono ?_
  rintro en w12 ⟨rfl, hb12⟩
  go_wp2_with fail
  refine (low_any _ _ _ _ _ (by omega) (by omega) (by decide +kernel) (by decide +kernel)).mono ?_
  rintro en w13 ⟨rfl, hb13⟩
  have hB12 : Below w.heap.size w w12 := (hB11.alloc hB11.size _).trans (hb12.mono (by have := hB11.size; simp; omega))
  have hB13 := hB12.trans (hb13.mono hB12.size)
  go_wp2_with fail
  go_ret
  exact ⟨rfl, hB13⟩

end Go.Proofs.Ytghlhipphmhjhaa
