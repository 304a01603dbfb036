/- ExactSmall: the walk. -/
import Derived.Test.YtghlhipphmhjhaaSane
import Derived.Deep.DeepCutAuto
import Derived.Deep.CutBlock
namespace Go.Proofs.Ytghlhipphmhjhaa
open Go.RowKit Go.Lib

theorem tmod_bd (a : Int) : -1073741823 ≤ a.tmod 1073741824 ∧ a.tmod 1073741824 ≤ 1073741823 := by
  have b1 := Int.tmod_lt_of_pos a (show (0 : Int) < 1073741824 by omega)
  have b2 := Int.tmod_lt_of_pos (-a) (show (0 : Int) < 1073741824 by omega)
  rw [Int.neg_tmod] at b2
  omega

theorem mul_bd30 (a b : Int) (ha : -1073741823 ≤ a ∧ a ≤ 1073741823) (hb : -1073741823 ≤ b ∧ b ≤ 1073741823) : -1152921502459363329 ≤ a * b ∧ a * b ≤ 1152921502459363329 := by
  have h : (a * b).natAbs ≤ 1073741823 * 1073741823 := by
    rw [Int.natAbs_mul]; exact Nat.mul_le_mul (by omega) (by omega)
  omega

theorem sign_le (x : Int) : (x < 0 ∧ x.sign = -1) ∨ ((x ≤ 0 ∧ 0 ≤ x) ∧ x.sign = 0) ∨ (0 < x ∧ x.sign = 1) := by
  have := sign_is x; omega
theorem sign_lt (x y : Int) : (x < y ∧ (x - y).sign = -1) ∨ ((x ≤ y ∧ y ≤ x) ∧ (x - y).sign = 0) ∨ (y < x ∧ (x - y).sign = 1) := by
  have := sign_is (x - y); omega

theorem sign_mul_case (A C G U : Int) (h : U = (A * G - C * G).sign) : U = (A - C).sign * G.sign := by
  rw [h, ← Int.sub_mul, Int.sign_mul]

theorem sign_times (A B C D G T V : Int) (hT : T = (A * B - C * D).sign) (hV : V = G.sign) : (A * G * B - C * G * D).sign = T * V := by
  rw [hT, hV, ← Int.sign_mul, Int.sub_mul]
  congr 1
  rw [Int.mul_right_comm A G B, Int.mul_right_comm C G D]

set_option maxRecDepth 100000 in
set_option maxHeartbeats 1000000 in
theorem small_walk (a b c d f : Int) (w : World) :
    Calls Try.prog 4 #[.agg #[.int .i64 a, .int .i64 b, .int .i64 c, .int .i64 d], .int .i64 f] w fun e w' => e = .returned (.bool true) ∧ Below w.heap.size w w' := by
  go_enter Try.func4, Try.ntmps4
  go_wp2_with fail
  refine (sane _).mono ?_
  rintro en w1 ⟨rfl, hb1⟩
  have t1 := (Cells.made w [.int .i64 a, .int .i64 b, .int .i64 c, .int .i64 d] 22).later hb1 (by simp)
  have hB1 : Below w.heap.size w w1 := ((Below.refl _ _).alloc (Nat.le_refl _) _).trans (hb1.mono (by simp))
  clear hb1
  have c1 := (t1.get 0 rfl).1
  have c2 := (t1.get 1 rfl).1
  have c3 := (t1.get 2 rfl).1
  have c4 := (t1.get 3 rfl).1
  go_wp2_with fail
  go_quiet (fail)
  have hA := tmod_bd a
  have hB := tmod_bd b
  have hC := tmod_bd c
  have hD := tmod_bd d
  generalize a.tmod 1073741824 = A at *
  generalize b.tmod 1073741824 = B at *
  generalize c.tmod 1073741824 = C at *
  generalize d.tmod 1073741824 = D at *
  have hAB := mul_bd30 A B hA hB
  have hCD := mul_bd30 C D hC hD
  have hB2 : Below w.heap.size w (w1.drewN nq) := below_drewN hB1 nq
  clear c1 c2 c3 c4 t1 hB1
  generalize w1.drewN nq = w2 at *
  go_upto_block 0 with fail
  have hnb : -2305843009213693952 ≤ A * B - C * D ∧ A * B - C * D ≤ 2305843009213693952 := by omega
  generalize hn : A * B - C * D = n at *
  have HN := Lib.hid hn
  clear hn hAB hCD
  go_cut [10] (fun v wx => v = .int .i64 n.sign ∧ wx = w2)
  case first =>
    by_cases h1 : 0 < n
    · go_wp2_with fail
      go_meet
      exact ⟨by rw [Int.sign_eq_one_of_pos h1], rfl⟩
    · by_cases h2 : n < 0
      · go_wp2_with fail
        go_meet
        exact ⟨by rw [Int.sign_eq_neg_one_of_neg h2], rfl⟩
      · obtain rfl : n = 0 := by omega
        go_wp2_with fail
        go_meet
        exact ⟨rfl, rfl⟩
  case rest =>
    obtain ⟨rfl, rfl⟩ := hcut
    have hTb := sign_bd n
    have HT : Hid (n.sign = (A * B - C * D).sign) := by rw [HN.out]; exact rfl
    generalize n.sign = T at *
    go_wp2_with fail
    refine (sign2_is A B C D T HT.out.symm _ (by omega) (by omega) (by omega) (by omega)).mono ?_
    rintro en w3 ⟨rfl, hb3⟩
    have hB3 := hB2.trans (hb3.mono hB2.size)
    go_wp2_with fail
    refine (sign2_is C D A B (-T) (by rw [HT.out, ← Int.sign_neg]; congr 1; omega) _ (by omega) (by omega) (by omega) (by omega)).mono ?_
    rintro en w4 ⟨rfl, hb4⟩
    have hB4 := hB3.trans (hb4.mono hB3.size)
    go_wp2_with fail
    refine (sign2_is B A D C T (by rw [HT.out, Int.mul_comm B A, Int.mul_comm D C]) _ (by omega) (by omega) (by omega) (by omega)).mono ?_
    rintro en w5 ⟨rfl, hb5⟩
    have hB5 := hB4.trans (hb5.mono hB4.size)
    clear hb3 hb4 hb5 hB2 hB3 hB4
    have hG := tmod_bd f
    go_wp2_with fail
    generalize hGf : f.tmod 1073741824 = G at *
    clear hGf
    obtain ⟨U, hU⟩ : ∃ U, U = (A * G - C * G).sign := ⟨_, rfl⟩
    have hUb : -1 ≤ U ∧ U ≤ 1 := by rw [hU]; exact sign_bd _
    have HU := Lib.hid hU
    clear hU
    refine (sign2_is A G C G U HU.out.symm _ (by omega) (by omega) (by omega) (by omega)).mono ?_
    rintro en w6 ⟨rfl, hb6⟩
    have hB6 := hB5.trans (hb6.mono hB5.size)
    clear hb6
    go_upto_block 1 with fail
    have hc := sign_lt A C
    have hg := sign_le G
    have hu := sign_mul_case A C G U HU.out
    generalize (A - C).sign = S at *
    clear HU
    go_cut [14] (fun v wx => v = .int .i64 U ∧ wx = w6)
    case first =>
      have HU2 := Lib.hid hu
      clear hu
      generalize G.sign = V at *
      rcases hc with ⟨h1, k1⟩ | ⟨h1, k1⟩ | ⟨h1, k1⟩ <;> rcases hg with ⟨h2, k2⟩ | ⟨h2, k2⟩ | ⟨h2, k2⟩ <;> subst k1 <;> subst k2 <;>
        (go_wp2_with fail; go_meet; exact ⟨by rw [HU2.out]; rfl, rfl⟩)
    case rest =>
      obtain ⟨rfl, rfl⟩ := hcut
      clear hc hg hu
      have hV := sign_bd G
      obtain ⟨V, hVd⟩ : ∃ V, V = G.sign := ⟨_, rfl⟩
      have HV := Lib.hid hVd
      rw [← hVd] at hV
      clear hVd
      have hTV : -1 ≤ T * V ∧ T * V ≤ 1 := by rw [HT.out, HV.out, ← Int.sign_mul]; exact sign_bd _
      have hAG := mul_bd30 A G hA hG
      have hCG := mul_bd30 C G hC hG
      go_wp2_with fail
      refine (sign2_is (A * G) B (C * G) D (T * V) (sign_times A B C D G T V HT.out HV.out) _ (by omega) (by omega) (by omega) (by omega)).mono ?_
      rintro en w7 ⟨rfl, hb7⟩
      have hB7 := hB6.trans (hb7.mono hB6.size)
      clear hb7
      go_wp2_with fail
      refine (sign2_is G 1 0 1 V (by rw [HV.out]; congr 1; omega) _ (by omega) (by omega) (by omega) (by omega)).mono ?_
      rintro en w8 ⟨rfl, hb8⟩
      have hB8 := hB7.trans (hb8.mono hB7.size)
      clear hb8
      go_wp2_with fail
      go_ret
      exact ⟨rfl, hB8⟩

end Go.Proofs.Ytghlhipphmhjhaa
