/- ExactReduced: the walk. -/
import Derived.Test.YtghlhipphmhjhaaSane
import Derived.Test.YtghlhipphmhjhaaGcdMath
import Derived.Deep.RegionHeld3
import Derived.Deep.RegionWith
import Derived.Deep.DeepCutAuto
namespace Go.Proofs.Ytghlhipphmhjhaa
open Go.RowKit Go.Lib

theorem tmod_b40 (a : Int) : -1099511627775 ≤ a.tmod 1099511627776 ∧ a.tmod 1099511627776 ≤ 1099511627775 := by
  have b1 := Int.tmod_lt_of_pos a (show (0 : Int) < 1099511627776 by omega)
  have b2 := Int.tmod_lt_of_pos (-a) (show (0 : Int) < 1099511627776 by omega)
  rw [Int.neg_tmod] at b2
  omega
theorem mul_b60 (a b : Int) (ha : -1099511627775 ≤ a ∧ a ≤ 1099511627775) (hb : 1 ≤ b ∧ b ≤ 1048576) : -1152921504606846976 ≤ a * b ∧ a * b ≤ 1152921504606846976 := by
  have h : (a * b).natAbs ≤ 1099511627775 * 1048576 := by
    rw [Int.natAbs_mul]; exact Nat.mul_le_mul (by omega) (by omega)
  omega
theorem mul_p60 (a b : Int) (ha : 1 ≤ a ∧ a ≤ 1099511627776) (hb : 1 ≤ b ∧ b ≤ 1048576) : 1 ≤ a * b ∧ a * b ≤ 1152921504606846976 :=
  ⟨by have := Int.mul_le_mul ha.1 hb.1 (by omega) (by omega); omega, by have := Int.mul_le_mul ha.2 hb.2 (by omega) (by omega); omega⟩

/-- The law's four ratios, each in a block of its own; below the heap's first size nothing has turned. -/
structure Ctx (w : World) (A Y Z V : Nat) (N D M E p q : Int) (w' : World) : Prop where
  x : Cells w' A [.int .i64 N, .int .i64 D]
  y : Cells w' Y [.int .i64 M, .int .i64 E]
  l : Cells w' Z [.int .i64 p, .int .i64 q]
  r : Cells w' V [.int .i64 p, .int .i64 q]
  a : A < w'.heap.size
  b : Y < w'.heap.size
  c : Z < w'.heap.size
  d : V < w'.heap.size
  low : Below w.heap.size w w'

section
variable {w w' w'' : World} {A Y Z V : Nat} {N D M E p q : Int}
theorem Ctx.later (h : Ctx w A Y Z V N D M E p q w') (hb : Below w'.heap.size w' w'') : Ctx w A Y Z V N D M E p q w'' :=
  ⟨h.x.later hb h.a, h.y.later hb h.b, h.l.later hb h.c, h.r.later hb h.d, Nat.lt_of_lt_of_le h.a hb.size, Nat.lt_of_lt_of_le h.b hb.size, Nat.lt_of_lt_of_le h.c hb.size, Nat.lt_of_lt_of_le h.d hb.size, h.low.trans (hb.mono h.low.size)⟩
theorem Ctx.drew (h : Ctx w A Y Z V N D M E p q w') : Ctx w A Y Z V N D M E p q w'.drew := h.later ((Below.refl _ _).drew)
theorem Ctx.all (h : Ctx w A Y Z V N D M E p q w') : (w'.cell? ⟨A, 0, none⟩ = some (.int .i64 N) ∧ w'.cell? ⟨A, 1, none⟩ = some (.int .i64 D) ∧ w'.cell? ⟨Y, 0, none⟩ = some (.int .i64 M) ∧ w'.cell? ⟨Y, 1, none⟩ = some (.int .i64 E) ∧ w'.cell? ⟨Z, 0, none⟩ = some (.int .i64 p) ∧ w'.cell? ⟨Z, 1, none⟩ = some (.int .i64 q) ∧ w'.cell? ⟨V, 0, none⟩ = some (.int .i64 p) ∧ w'.cell? ⟨V, 1, none⟩ = some (.int .i64 q)) ∧ Ctx w A Y Z V N D M E p q w' :=
  ⟨⟨(h.x.get 0 rfl).1, (h.x.get 1 rfl).1, (h.y.get 0 rfl).1, (h.y.get 1 rfl).1, (h.l.get 0 rfl).1, (h.l.get 1 rfl).1, (h.r.get 0 rfl).1, (h.r.get 1 rfl).1⟩, h⟩
theorem cmp_ctx {n d m e r : Int} (hr : cmpOf n d m e = r) (ha : -9223372036854775808 ≤ n ∧ n ≤ 9223372036854775807) (hb : -9223372036854775808 ≤ d ∧ d ≤ 9223372036854775807) (hc : -9223372036854775808 ≤ m ∧ m ≤ 9223372036854775807) (hd : -9223372036854775808 ≤ e ∧ e ≤ 9223372036854775807) (h : Ctx w A Y Z V N D M E p q w') :
    Calls Try.prog 12 #[.agg #[.int .i64 n, .int .i64 d], .agg #[.int .i64 m, .int .i64 e]] w' fun en w'' => en = .returned (.int .i64 r) ∧ Ctx w A Y Z V N D M E p q w'' :=
  (cmp_is n d m e r hr w' ha hb hc hd).mono fun _ _ ⟨he, hb⟩ => ⟨he, h.later hb⟩
theorem gcd_ctx {a b r : Int} (hr : gcdOf a b = r) (ha : -9223372036854775808 ≤ a ∧ a ≤ 9223372036854775807) (hb : -9223372036854775808 ≤ b ∧ b ≤ 9223372036854775807) (h : Ctx w A Y Z V N D M E p q w') :
    Calls Try.prog 19 #[.int .i64 a, .int .i64 b] w' fun en w'' => en = .returned (.int .i64 r) ∧ Ctx w A Y Z V N D M E p q w'' :=
  (gcd_is a b r hr w' ha hb).mono fun _ _ ⟨he, hb⟩ => ⟨he, h.later hb⟩
end

set_option maxRecDepth 100000 in
set_option maxHeartbeats 1000000 in
theorem reduced_walk (n d f : Int) (w : World) :
    Calls Try.prog 8 #[.agg #[.int .i64 n, .int .i64 d], .int .i64 f] w fun e w' => e = .returned (.bool true) ∧ Below w.heap.size w w' := by
  go_enter Try.func8, Try.ntmps8
  go_wp2_with fail
  refine (sane _).mono ?_
  rintro en w1 ⟨rfl, hb1⟩
  go_wp2_with fail
  have x1 := (Cells.made w [.int .i64 n, .int .i64 d] 27).later hb1 (by simp)
  have hB1 : Below w.heap.size w w1 := ((Below.refl _ _).alloc (Nat.le_refl _) _).trans (hb1.mono (by simp))
  have hs1 : w.heap.size < w1.heap.size := by have := hb1.size; simp at this; omega
  clear hb1
  obtain ⟨c1, f1⟩ := x1.get 0 rfl
  obtain ⟨c2, f2⟩ := x1.get 1 rfl
  obtain ⟨N, hN⟩ : ∃ N, N = n.tmod 1099511627776 := ⟨_, rfl⟩
  obtain ⟨D, hD⟩ : ∃ D, D = d % 1099511627776 + 1 := ⟨_, rfl⟩
  have hNb : -1099511627775 ≤ N ∧ N ≤ 1099511627775 := hN ▸ tmod_b40 n
  have hDb : 1 ≤ D ∧ D ≤ 1099511627776 := by omega
  have hDw := Lib.hid (show IntKind.i64.wrap (d % 1099511627776 + 1) = D by rw [hD]; exact IntWalk.i64_in _ (by omega))
  have HN := Lib.hid hN
  clear hN hD
  go_cut [5] (fun v wx => v = .bool true ∧ wx = ((w1.setCell ⟨w.heap.size, 0, none⟩ (.int .i64 N)).setCell ⟨w.heap.size, 1, none⟩ (.int .i64 D)).drew)
  case first =>
    go_region_with (go_at_call 14; refine (mod_any d _ _ (by omega) (by omega)).mono ?_; rintro e w' ⟨rfl, rfl⟩)
    all_goals (rw [hDw.out, ← HN.out]; go_wp2_with fail; go_meet; exact ⟨rfl, rfl⟩)
  case rest =>
    obtain ⟨rfl, rfl⟩ := hcut
    have x2 := ((x1.set 0 (by simp) (.int .i64 N)).set 1 (by simp) (.int .i64 D)).drew
    have hB2 := ((hB1.setCell (p := ⟨w.heap.size, 0, none⟩) (by simp) (.int .i64 N)).setCell (p := ⟨w.heap.size, 1, none⟩) (by simp) (.int .i64 D)).drew
    have hs2 : w.heap.size < ((w1.setCell ⟨w.heap.size, 0, none⟩ (.int .i64 N)).setCell ⟨w.heap.size, 1, none⟩ (.int .i64 D)).drew.heap.size := by simp; exact hs1
    generalize ((w1.setCell ⟨w.heap.size, 0, none⟩ (.int .i64 N)).setCell ⟨w.heap.size, 1, none⟩ (.int .i64 D)).drew = w2 at *
    clear x1 hB1 hs1 c1 f1 c2 f2 hDw HN
    have c1 := (x2.get 0 rfl).1
    have c2 := (x2.get 1 rfl).1
    go_wp2_with fail
    refine (mod_any f _ _ (by omega) (by omega)).mono ?_
    rintro e w' ⟨rfl, rfl⟩
    have hFb : 1 ≤ f % 1048576 + 1 ∧ f % 1048576 + 1 ≤ 1048576 := by omega
    go_upto_region 4 with fail
    generalize f % 1048576 + 1 = F at *
    have hNF := mul_b60 N F hNb hFb
    have hDF := mul_p60 D F hDb hFb
    go_upto_region 5 with fail
    obtain ⟨G, p, q, r1, r2, r3, r4, r5, r6, r7, r8, r9, r10, r11, r12, r13, r14, r15⟩ := reduced_all N D F hNb hDb hFb
    have y3 := Cells.made w2 [.int .i64 (N * F), .int .i64 (D * F)] 27
    have x3 := x2.alloc hs2 (.cells #[.int .i64 (N * F), .int .i64 (D * F)] 27)
    have hB3 := hB2.alloc hB2.size (.cells #[.int .i64 (N * F), .int .i64 (D * F)] 27)
    have hs3 : w2.heap.size < (w2.alloc (.cells #[.int .i64 (N * F), .int .i64 (D * F)] 27)).heap.size := by simp
    generalize w2.alloc (.cells #[.int .i64 (N * F), .int .i64 (D * F)] 27) = w3 at *
    generalize w2.heap.size = Y at *
    generalize N * F = M at *
    generalize D * F = E at *
    clear c1 c2 x2 hB2
    have R1 := Lib.hid r1
    have R3 := Lib.hid r3
    have R4 := Lib.hid r4
    have R7 := Lib.hid r7
    have R9 := Lib.hid r9
    have R10 := Lib.hid r10
    have R11 := Lib.hid r11
    have R12 := Lib.hid r12
    have R13 := Lib.hid r13
    have R14 := Lib.hid r14
    have R15 := Lib.hid r15
    clear r1 r3 r4 r7 r9 r10 r11 r12 r13 r14 r15
    have c1 := (x3.get 0 rfl).1
    have c2 := (x3.get 1 rfl).1
    go_wp2_with fail
    refine (lowest_yes N D _ (by omega) (by omega)).mono ?_
    rintro en w4 ⟨rfl, hb4⟩
    rw [R1.out, R3.out, R4.out]
    have x4 := x3.later hb4 (by omega)
    have y4 := y3.later hb4 hs3
    have hB4 := hB3.trans (hb4.mono hB3.size)
    have hs4 : Y < w4.heap.size := by have := hb4.size; omega
    clear c1 c2 x3 y3 hB3 hs3 hb4
    go_upto_region 6 with fail
    have p5 := Cells.made w4 [.int .i64 p, .int .i64 q] 27
    have x5 := x4.alloc (by omega) (.cells #[.int .i64 p, .int .i64 q] 27)
    have y5 := y4.alloc (by omega) (.cells #[.int .i64 p, .int .i64 q] 27)
    have hB5 := hB4.alloc hB4.size (.cells #[.int .i64 p, .int .i64 q] 27)
    have hs5 : w4.heap.size < (w4.alloc (.cells #[.int .i64 p, .int .i64 q] 27)).heap.size := by simp
    generalize w4.alloc (.cells #[.int .i64 p, .int .i64 q] 27) = w5 at *
    generalize w4.heap.size = Z at *
    clear x4 y4 hB4
    have c1 := (y5.get 0 rfl).1
    have c2 := (y5.get 1 rfl).1
    go_wp2_with fail
    refine (lowest_yes M E _ (by omega) (by omega)).mono ?_
    rintro en w6 ⟨rfl, hb6⟩
    rw [R7.out, R9.out, R10.out]
    have x6 := x5.later hb6 (by omega)
    have y6 := y5.later hb6 (by omega)
    have p6 := p5.later hb6 (by omega)
    have hB6 := hB5.trans (hb6.mono hB5.size)
    have hs6 : Z < w6.heap.size := by have := hb6.size; omega
    clear c1 c2 x5 y5 p5 hB5 hs5 hb6
    go_upto_region 7 with fail
    have q7 := Cells.made w6 [.int .i64 p, .int .i64 q] 27
    have x7 := x6.alloc (by omega) (.cells #[.int .i64 p, .int .i64 q] 27)
    have y7 := y6.alloc (by omega) (.cells #[.int .i64 p, .int .i64 q] 27)
    have p7 := p6.alloc (by omega) (.cells #[.int .i64 p, .int .i64 q] 27)
    have hB7 := hB6.alloc hB6.size (.cells #[.int .i64 p, .int .i64 q] 27)
    have hs7 : w6.heap.size < (w6.alloc (.cells #[.int .i64 p, .int .i64 q] 27)).heap.size := by simp
    generalize w6.alloc (.cells #[.int .i64 p, .int .i64 q] 27) = w7 at *
    generalize w6.heap.size = V at *
    clear x6 y6 p6 hB6
    have c1 := (x7.get 0 rfl).1
    have c2 := (x7.get 1 rfl).1
    go_wp2_with fail
    refine (gcd_any N D _ (by omega) (by omega)).mono ?_
    rintro en w8 ⟨rfl, hb8⟩
    rw [R1.out]
    have hz8 := hb8.size
    have C8 : Ctx w w.heap.size Y Z V N D M E p q w8 := ⟨x7.later hb8 (by omega), y7.later hb8 (by omega), p7.later hb8 (by omega), q7.later hb8 hs7, by omega, by omega, by omega, by omega, hB7.trans (hb8.mono hB7.size)⟩
    clear c1 c2 x7 y7 p7 q7 hB7 hb8 hs7 hs6 hs4 hs2 hz8
    obtain ⟨⟨c1, c2, c3, c4, c5, c6, c7, c8⟩, -⟩ := C8.all
    go_upto_region 10 with fail
    have k1 : (N.tmod G == 0) = true := by rw [R13.out]; rfl
    have k2 : (D.tmod G == 0) = true := by rw [Int.tmod_eq_emod_of_nonneg (by omega), R14.out]; rfl
    have k3 : (q == IntKind.i64.wrap (D.tdiv G)) = true := by rw [Int.tdiv_eq_ediv_of_nonneg (by omega), R4.out, IntWalk.i64_in _ (by omega)]; simp
    have k4 : (G * F == IntKind.i64.wrap (G * F)) = true := by rw [IntWalk.i64_in _ (by omega)]; simp
    have k5 : (G == 0) = false := by rw [beq_eq_false_iff_ne]; omega
    have k6 : ¬ G = 0 := by omega
    have K12 := Lib.hid (fun (W : World) (h : Ctx w w.heap.size Y Z V N D M E p q W) => cmp_ctx R11.out (by omega) (by omega) (by omega) (by omega) h)
    have K1 := Lib.hid (fun (W : World) (h : Ctx w w.heap.size Y Z V N D M E p q W) => gcd_ctx R12.out (by omega) (by omega) h)
    have K2 := Lib.hid (fun (W : World) (h : Ctx w w.heap.size Y Z V N D M E p q W) => gcd_ctx R7.out (by omega) (by omega) h)
    have K3 := Lib.hid (fun (W : World) (h : Ctx w w.heap.size Y Z V N D M E p q W) => gcd_ctx R15.out (by omega) (by omega) h)
    go_region_held3 (fun w' => (w'.cell? ⟨w.heap.size, 0, none⟩ = some (.int .i64 N) ∧ w'.cell? ⟨w.heap.size, 1, none⟩ = some (.int .i64 D) ∧ w'.cell? ⟨Y, 0, none⟩ = some (.int .i64 M) ∧ w'.cell? ⟨Y, 1, none⟩ = some (.int .i64 E) ∧ w'.cell? ⟨Z, 0, none⟩ = some (.int .i64 p) ∧ w'.cell? ⟨Z, 1, none⟩ = some (.int .i64 q) ∧ w'.cell? ⟨V, 0, none⟩ = some (.int .i64 p) ∧ w'.cell? ⟨V, 1, none⟩ = some (.int .i64 q)) ∧ Ctx w w.heap.size Y Z V N D M E p q w')
      (first | exact C8.drew.all | exact Ctx.all (by assumption))
      (first
        | (go_at_call 12; refine (K12.out _ ?_).mono ?_; (first | assumption | exact And.right (by assumption)); rintro e w' ⟨rfl, hC⟩)
        | (go_at_call_of 19 (Value.int IntKind.i64 p); refine (K1.out _ ?_).mono ?_; (first | assumption | exact And.right (by assumption)); rintro e w' ⟨rfl, hC⟩)
        | (go_at_call_of 19 (Value.int IntKind.i64 M); refine (K2.out _ ?_).mono ?_; (first | assumption | exact And.right (by assumption)); rintro e w' ⟨rfl, hC⟩)
        | (go_at_call_of 19 (Value.int IntKind.i64 D); refine (K3.out _ ?_).mono ?_; (first | assumption | exact And.right (by assumption)); rintro e w' ⟨rfl, hC⟩))
    go_wp2_with fail
    go_ret
    exact ⟨rfl, Ctx.low (by assumption)⟩

end Go.Proofs.Ytghlhipphmhjhaa
