/- Which names and classes are right; what begins with a prefix. -/
import Derived.Test.YtiliommilcifeaaA3
namespace Go.Proofs.Ytiliommilcifeaa
open Go.RowKit Go.Lib Go.Sort
theorem ba_get6 (s : List UInt8) (k : Nat) (h : k < (⟨s.toArray⟩ : ByteArray).size) : (⟨s.toArray⟩ : ByteArray)[k]'h = s[k]'h := rfl
attribute [local go_sem] ba_get6

def rightN (s : List UInt8) : Bool := decide (1 ≤ s.length) && (decide (s.length ≤ 24) && (s.all nameB && (decide (s.head? ≠ some 32) && decide (s.getLast? ≠ some 32))))
def classN (s : List UInt8) : Bool := decide (1 ≤ s.length) && (decide (s.length ≤ 12) && s.all classB)
set_option maxHeartbeats 2000000 in
theorem class_any (s : List UInt8) (hs : Fits s) (w : World) : Calls Try.prog 13 #[str s] w fun e w' => e = .returned (.bool (classN s)) ∧ w = w' := by
  have HE := Lib.hid (every_classB s hs w)
  unfold Fits at hs
  unfold str at HE ⊢
  unfold classN
  generalize s.all classB = r at *
  by_cases h1 : 1 ≤ s.length
  · have b1 : (1 : Int) ≤ s.length := by omega
    by_cases h2 : s.length ≤ 12
    · have b2 : (s.length : Int) ≤ 12 := by omega
      rw [decide_eq_true h1, decide_eq_true h2]
      clear h1 h2
      go_enter Try.func13, Try.ntmps13
      go_wp2_with fail
      refine HE.out.mono ?_
      rintro e w2 ⟨rfl, rfl⟩
      go_wp2_with fail
      go_ret
      exact ⟨rfl, rfl⟩
    · have b2 : ¬ (s.length : Int) ≤ 12 := by omega
      rw [decide_eq_true h1, decide_eq_false h2]
      clear h1 h2
      go_enter Try.func13, Try.ntmps13
      go_wp2_with fail
      go_ret
      exact ⟨rfl, rfl⟩
  · have b1 : ¬ (1 : Int) ≤ s.length := by omega
    rw [decide_eq_false h1]
    clear h1
    go_enter Try.func13, Try.ntmps13
    go_wp2_with fail
    go_ret
    exact ⟨rfl, rfl⟩
set_option maxRecDepth 100000 in
set_option maxHeartbeats 4000000 in
theorem right_any (s : List UInt8) (hs : Fits s) (w : World) : Calls Try.prog 11 #[str s] w fun e w' => e = .returned (.bool (rightN s)) ∧ w = w' := by
  have HE := Lib.hid (every_nameB s hs w)
  unfold Fits at hs
  unfold str at HE ⊢
  unfold rightN
  obtain ⟨r, hr⟩ : ∃ r, s.all nameB = r := ⟨_, rfl⟩
  rw [hr] at HE ⊢
  clear hr
  by_cases h1 : 1 ≤ s.length
  · have b1 : (1 : Int) ≤ s.length := by omega
    by_cases h2 : s.length ≤ 24
    · have b2 : (s.length : Int) ≤ 24 := by omega
      rw [decide_eq_true h1, decide_eq_true h2]
      cases r
      · clear h1 h2
        go_enter Try.func11, Try.ntmps11
        go_wp2_with fail
        refine HE.out.mono ?_
        rintro e w2 ⟨rfl, rfl⟩
        go_wp2_with fail
        go_ret
        exact ⟨rfl, rfl⟩
      · have b3 : (0 : Int) < s.length := by omega
        have b4 : (s.length : Int) - 1 < s.length := by omega
        have b5 : (0 : Int) ≤ (s.length : Int) - 1 := by omega
        have b6 : ((s.length : Int) - 1).toNat = s.length - 1 := by omega
        have e0 : s.head? = some s[0] := by rw [List.head?_eq_getElem?, List.getElem?_eq_getElem]
        have e1 : s.getLast? = some (s[s.length - 1]) := by rw [List.getLast?_eq_getElem?, List.getElem?_eq_getElem]
        rw [e0, e1]
        obtain ⟨c, hc⟩ : ∃ c, s[0] = c := ⟨_, rfl⟩
        obtain ⟨d, hd⟩ : ∃ d, s[s.length - 1] = d := ⟨_, rfl⟩
        rw [hc, hd]
        clear e0 e1
        by_cases q1 : c = 32
        · subst q1
          go_enter Try.func11, Try.ntmps11
          go_wp2_with fail
          refine HE.out.mono ?_
          rintro e w2 ⟨rfl, rfl⟩
          go_wp2_with fail
          go_ret
          exact ⟨ret_b (by simp), rfl⟩
        · have z1 : ((c.toNat : Int) != 32) = true := by
            rw [bne_iff_ne]; intro q; apply q1; apply UInt8.toNat_inj.1; show c.toNat = 32; omega
          have z3 : decide (some c ≠ some 32) = true := by simp [q1]
          rw [z3]
          by_cases q2 : d = 32
          · subst q2
            go_enter Try.func11, Try.ntmps11
            go_wp2_with fail
            refine HE.out.mono ?_
            rintro e w2 ⟨rfl, rfl⟩
            go_wp2_with fail
            go_ret
            exact ⟨ret_b (by simp), rfl⟩
          · have z2 : ((d.toNat : Int) != 32) = true := by
              rw [bne_iff_ne]; intro q; apply q2; apply UInt8.toNat_inj.1; show d.toNat = 32; omega
            have z4 : decide (some d ≠ some 32) = true := by simp [q2]
            rw [z4]
            clear q1 q2 z3 z4
            go_enter Try.func11, Try.ntmps11
            go_wp2_with fail
            refine HE.out.mono ?_
            rintro e w2 ⟨rfl, rfl⟩
            go_wp2_with fail
            go_ret
            exact ⟨rfl, rfl⟩
    · have b2 : ¬ (s.length : Int) ≤ 24 := by omega
      rw [decide_eq_true h1, decide_eq_false h2]
      clear h1 h2
      go_enter Try.func11, Try.ntmps11
      go_wp2_with fail
      go_ret
      exact ⟨rfl, rfl⟩
  · have b1 : ¬ (1 : Int) ≤ s.length := by omega
    rw [decide_eq_false h1]
    clear h1
    go_enter Try.func11, Try.ntmps11
    go_wp2_with fail
    go_ret
    exact ⟨rfl, rfl⟩
set_option maxRecDepth 100000 in
set_option maxHeartbeats 4000000 in
theorem rright_any (s : List UInt8) (hs : Fits s) (w : World) : Calls Try.prog 12 #[str s] w fun e w' => e = .returned (.bool (rightN s)) ∧ w = w' := by
  unfold Fits at hs
  unfold str
  unfold rightN
  by_cases h1 : 1 ≤ s.length
  · have b1 : ¬ (s.length : Int) < 1 := by omega
    have b0 : (1 : Int) ≤ s.length := by omega
    by_cases h2 : s.length ≤ 24
    · have b2 : ¬ (24 : Int) < s.length := by omega
      rw [decide_eq_true h1, decide_eq_true h2]
      have b3 : (0 : Int) < s.length := by omega
      have b4 : (s.length : Int) - 1 < s.length := by omega
      have b5 : (0 : Int) ≤ (s.length : Int) - 1 := by omega
      have b6 : ((s.length : Int) - 1).toNat = s.length - 1 := by omega
      have e0 : s.head? = some s[0] := by rw [List.head?_eq_getElem?, List.getElem?_eq_getElem]
      have e1 : s.getLast? = some (s[s.length - 1]) := by rw [List.getLast?_eq_getElem?, List.getElem?_eq_getElem]
      rw [e0, e1]
      obtain ⟨c, hc⟩ : ∃ c, s[0] = c := ⟨_, rfl⟩
      obtain ⟨d, hd⟩ : ∃ d, s[s.length - 1] = d := ⟨_, rfl⟩
      rw [hc, hd]
      clear e0 e1
      by_cases q1 : c = 32
      · subst q1
        go_enter Try.func12, Try.ntmps12
        go_wp2_with fail
        go_ret
        exact ⟨ret_b (by simp), rfl⟩
      · have z1 : ((c.toNat : Int) == 32) = false := by
          rw [beq_eq_false_iff_ne]; intro q; apply q1; apply UInt8.toNat_inj.1; show c.toNat = 32; omega
        have z3 : decide (some c ≠ some 32) = true := by simp [q1]
        rw [z3]
        by_cases q2 : d = 32
        · subst q2
          go_enter Try.func12, Try.ntmps12
          go_wp2_with fail
          go_ret
          exact ⟨ret_b (by simp), rfl⟩
        · have z2 : ((d.toNat : Int) == 32) = false := by
            rw [beq_eq_false_iff_ne]; intro q; apply q2; apply UInt8.toNat_inj.1; show d.toNat = 32; omega
          have z4 : decide (some d ≠ some 32) = true := by simp [q2]
          rw [z4]
          clear q1 q2 z3 z4
          go_enter Try.func12, Try.ntmps12
          go_wp2_with fail
          go_loop [3] (fun i => ∃ k : Nat, k ≤ s.length ∧ i = .int .i64 k ∧ Hid ((s.take k).all nameB = true)) (fun i => s.length - (RowKit.intOf i).toNat)
          case atStart => exact ⟨0, Nat.zero_le _, rfl, Lib.hid rfl⟩
          case round =>
            obtain ⟨k, hk, rfl, HT⟩ := hrel
            by_cases hlt : k < s.length
            · have g1 : (k : Int) < s.length := by omega
              obtain ⟨u, hu⟩ : ∃ u, s[k] = u := ⟨_, rfl⟩
              have HY := Lib.hid (fun q : nameB u = true => bytes_all_next (f := nameB) hlt HT.out (by rw [hu]; exact q))
              have HX := Lib.hid (fun q : nameB u = false => bytes_all_stop (f := nameB) hlt (by rw [hu]; exact q))
              clear HT
              by_cases q3 : u.toNat < 32
              · have z5 : (u.toNat : Int) < 32 := by omega
                have HE := Lib.hid (HX.out (by unfold nameB; simp <;> omega))
                clear HX HY
                go_wp2_with fail
                go_ret
                exact ⟨ret_b (by rw [← HE.out]), rfl⟩
              · have z5 : ¬ (u.toNat : Int) < 32 := by omega
                by_cases q4 : 126 < u.toNat
                · have z6 : (126 : Int) < u.toNat := by omega
                  have HE := Lib.hid (HX.out (by unfold nameB; simp <;> omega))
                  clear HX HY
                  go_wp2_with fail
                  go_ret
                  exact ⟨ret_b (by rw [← HE.out]), rfl⟩
                · have z6 : ¬ (126 : Int) < u.toNat := by omega
                  by_cases q5 : u.toNat = 34
                  · have z7 : ((u.toNat : Int) == 34) = true := by simp; omega
                    have HE := Lib.hid (HX.out (by unfold nameB; simp <;> omega))
                    clear HX HY
                    go_wp2_with fail
                    go_ret
                    exact ⟨ret_b (by rw [← HE.out]), rfl⟩
                  · have z7 : ((u.toNat : Int) == 34) = false := by simp; omega
                    have HE := Lib.hid (HY.out (by unfold nameB; simp <;> omega))
                    clear HX HY
                    go_wp2_with fail
                    go_round
                    case rel => exact ⟨k + 1, by omega, by go_num, HE⟩
                    case measure => simp [RowKit.intOf]; omega
            · obtain rfl : k = s.length := by omega
              have HE := Lib.hid (show true = s.all nameB by rw [← HT.out, List.take_length])
              clear HT
              go_wp2_with fail
              go_ret
              exact ⟨ret_b (by rw [← HE.out]), rfl⟩

    · have b2 : (24 : Int) < s.length := by omega
      rw [decide_eq_true h1, decide_eq_false h2]
      clear h1 h2
      go_enter Try.func12, Try.ntmps12
      go_wp2_with fail
      go_ret
      exact ⟨rfl, rfl⟩
  · have b1 : (s.length : Int) < 1 := by omega
    rw [decide_eq_false h1]
    clear h1
    go_enter Try.func12, Try.ntmps12
    go_wp2_with fail
    go_ret
    exact ⟨rfl, rfl⟩
set_option maxRecDepth 100000 in
set_option maxHeartbeats 4000000 in
theorem rclass_any (s : List UInt8) (hs : Fits s) (w : World) : Calls Try.prog 14 #[str s] w fun e w' => e = .returned (.bool (classN s)) ∧ w = w' := by
  unfold Fits at hs
  unfold str
  unfold classN
  go_enter Try.func14, Try.ntmps14
  go_wp2_with fail
  go_loop [3] (fun i => ∃ k : Nat, k ≤ s.length ∧ i = .int .i64 k ∧ Hid ((s.take k).all classB = true)) (fun i => s.length - (RowKit.intOf i).toNat)
  case atStart => exact ⟨0, Nat.zero_le _, rfl, Lib.hid rfl⟩
  case round =>
    obtain ⟨k, hk, rfl, HT⟩ := hrel
    by_cases hlt : k < s.length
    · have g1 : (k : Int) < s.length := by omega
      obtain ⟨u, hu⟩ : ∃ u, s[k] = u := ⟨_, rfl⟩
      have HY := Lib.hid (fun q : classB u = true => bytes_all_next (f := classB) hlt HT.out (by rw [hu]; exact q))
      have HX := Lib.hid (fun q : classB u = false => bytes_all_stop (f := classB) hlt (by rw [hu]; exact q))
      clear HT
      by_cases q3 : u.toNat < 97
      · have z5 : (u.toNat : Int) < 97 := by omega
        have HE := Lib.hid (HX.out (by unfold classB; simp <;> omega))
        clear HX HY
        go_wp2_with fail
        go_ret
        exact ⟨ret_b (by rw [← HE.out]; simp), rfl⟩
      · have z5 : ¬ (u.toNat : Int) < 97 := by omega
        by_cases q4 : 122 < u.toNat
        · have z6 : (122 : Int) < u.toNat := by omega
          have HE := Lib.hid (HX.out (by unfold classB; simp <;> omega))
          clear HX HY
          go_wp2_with fail
          go_ret
          exact ⟨ret_b (by rw [← HE.out]; simp), rfl⟩
        · have z6 : ¬ (122 : Int) < u.toNat := by omega
          have HE := Lib.hid (HY.out (by unfold classB; simp <;> omega))
          clear HX HY
          go_wp2_with fail
          go_round
          case rel => exact ⟨k + 1, by omega, by go_num, HE⟩
          case measure => simp [RowKit.intOf]; omega
    · obtain rfl : k = s.length := by omega
      have HE := Lib.hid (show true = s.all classB by rw [← HT.out, List.take_length])
      clear HT
      by_cases h1 : 1 ≤ s.length
      · have b1 : (1 : Int) ≤ s.length := by omega
        by_cases h2 : s.length ≤ 12
        · have b2 : (s.length : Int) ≤ 12 := by omega
          go_wp2_with fail
          go_ret
          exact ⟨ret_b (by rw [← HE.out]), rfl⟩
        · have b2 : ¬ (s.length : Int) ≤ 12 := by omega
          go_wp2_with fail
          go_ret
          exact ⟨ret_b (by simp), rfl⟩
      · have b1 : ¬ (1 : Int) ≤ s.length := by omega
        go_wp2_with fail
        go_ret
        exact ⟨ret_b (by simp), rfl⟩
theorem beg_is {pre nm : List UInt8} (h : nm ≠ []) : (decide (pre.length ≤ nm.length) && decide (fold (nm.take pre.length) = fold pre)) = beg pre nm := by
  unfold beg
  rw [decide_eq_true h, Bool.true_and]
  congr 2
  unfold fold
  rw [List.map_take]
set_option maxHeartbeats 2000000 in
theorem begins_any (nm pre : List UInt8) (hn : Fits nm) (h0 : nm ≠ []) (w : World) : Calls Try.prog 31 #[str nm, str (fold pre)] w fun e w' => e = .returned (.bool (beg pre nm)) ∧ Grows w w' := by
  rw [← beg_is h0]
  have HF := Lib.hid (fold_any (nm.take pre.length) (by unfold Fits at hn ⊢; rw [List.length_take]; omega))
  unfold Fits at hn
  have hL := Lib.hid (fold_length pre)
  obtain ⟨q, hq⟩ : ∃ q, fold pre = q := ⟨_, rfl⟩
  rw [hq] at hL ⊢
  rw [← hL.out] at HF ⊢
  unfold str at HF ⊢
  by_cases h : q.length ≤ nm.length
  · have b1 : (q.length : Int) ≤ nm.length := by omega
    rw [decide_eq_true h]
    obtain ⟨r, hr⟩ : ∃ r, decide (fold (nm.take q.length) = q) = r := ⟨_, rfl⟩
    have z0 : (fold (nm.take q.length) == q) = r := by rw [← hr, Bool.beq_eq_decide_eq]
    rw [hr]
    have HX := Lib.hid (ba_extract nm q.length)
    generalize fold (nm.take q.length) = x at *
    clear hr hL hq
    go_enter Try.func31, Try.ntmps31
    go_wp2_with fail
    rw [HX.out]
    refine (HF.out _).mono ?_
    rintro e w2 ⟨rfl, g1⟩
    go_wp2_with fail
    go_ret
    exact ⟨rfl, g1⟩
  · have b1 : ¬ (q.length : Int) ≤ nm.length := by omega
    rw [decide_eq_false h]
    clear hq hL HF h
    go_enter Try.func31, Try.ntmps31
    go_wp2_with fail
    go_ret
    exact ⟨rfl, Below.refl _ _⟩

end Go.Proofs.Ytiliommilcifeaa
