/- The reference's number: a negative int at the position. -/
import Derived.Test.YtjiljkiedidmeaaDoorRNum
namespace Go.Proofs.YtjiljkiedidmeaaDoor
open Go.RowKit Go.Lib

set_option maxRecDepth 100000 in
set_option maxHeartbeats 2000000 in
theorem number_neg (b k j v : Nat) (s D : List UInt8) (c : UInt8) (w : World) (hs : Short s) (h : RefAt w b s k false) (hv0 : 0 < v) (hv : (v : Int) ≤ 9223372036854775808) (hj : j ≤ 20) (hd : s[k + j]? = some c) (hS : Seen s k j c)
    (ha : ByteArray.extract ⟨s.toArray⟩ k (k + j) = ⟨(45 :: D).toArray⟩) (hL : decDigits v = D) :
    Calls Tryd.prog 45 #[.pointer (some ⟨b, 0, none⟩), .int .u8 (c.toNat : Int)] w (RefPost w b (.tuple #[.int .i64 (-(v : Int)), .bool true]) s (k + j + 1) false) := by
  have HS := Lib.hid hS
  clear hS
  have hkl : k + j < s.length := by
    rcases Nat.lt_or_ge (k + j) s.length with h1 | h1
    · exact h1
    · rw [List.getElem?_eq_none h1] at hd; cases hd
  have HX := Lib.hid (byte_at hd (by simpa [ByteArray.size] using hkl))
  have HA := Lib.hid ha
  clear hd ha
  have HD : Hid (∀ x ∈ D, 48 ≤ x.toNat ∧ x.toNat ≤ 57) := by rw [← hL]; exact decDigits_mem v
  have HV : Hid (spell 0 D = v) := by rw [← hL]; exact spell_digits v
  have HI : Hid (itoa (-(v : Int)) = 45 :: D) := by
    show _ = _
    rw [← hL, itoa_neg (by omega), Int.natAbs_neg, Int.natAbs_natCast]
  have hL1 : D.length ≤ 20 := by
    have := itoa_length (n := -(v : Int)) ⟨by omega, by omega⟩
    rw [HI.out] at this
    simp at this
    omega
  clear hL
  have c0 := h.cell0
  have c1 := h.cell1
  have c2 := h.cell2
  have hk0 : (0 : Int) ≤ (k : Int) := by omega
  unfold Short at hs
  go_enter Tryd.func45, Tryd.ntmps45
  go_wp2_with fail
  go_loop [6] (fun x => ∃ i : Nat, i ≤ j ∧ x = .int .i64 ((k : Int) + (i : Int))) (fun x => s.length - (RowKit.intOf x).toNat)
  case atStart => exact ⟨0, Nat.zero_le _, by simp⟩
  case round =>
    obtain ⟨i, hi, rfl⟩ := hrel
    by_cases hlt : i < j
    · obtain ⟨d, hd, hne⟩ := HS.out i hlt
      have hki : k + i < s.length := by omega
      have hix := byte_at hd (by simpa [ByteArray.size] using hki)
      have hb : ((d.toNat : Int) != (c.toNat : Int)) = true := by rw [bne_iff_ne]; intro e; exact hne (UInt8.toNat_inj.1 (Int.ofNat_inj.1 e))
      have hl1 : (k : Int) + (i : Int) < (s.length : Int) := by omega
      clear hd hne
      go_wp2_with fail
      go_round
      case rel => exact ⟨i + 1, by omega, by congr 1⟩
      case measure => simp [RowKit.intOf]; omega
    · obtain rfl : i = j := by omega
      have h21 : (k : Int) + (i : Int) < (k : Int) + 21 := by omega
      have hlt2 : (k : Int) + (i : Int) < (s.length : Int) := by omega
      have hq : ((k : Int) + (i : Int) == (s.length : Int)) = false := by rw [beq_eq_false_iff_ne]; omega
      have hx := HX.out
      have hb : ((c.toNat : Int) != (c.toNat : Int)) = false := by simp
      go_wp2_with fail
      have hxs := HA.out
      have hk1 : (k : Int) ≤ (k : Int) + (i : Int) := by omega
      have hk2 : (0 : Int) ≤ (k : Int) + (i : Int) := by omega
      have hk3 : ((k : Int) + (i : Int)).toNat = k + i := by omega
      go_quiet (fail)
      have g2 := grows_drewN w nq
      have r2 := h.later g2
      generalize w.drewN nq = w2 at *
      clear hxs hx hb hk3
      have hx0 := byte_at (s := 45 :: D) (k := 0) rfl (by simp [ByteArray.size])
      have hy : (((45 : UInt8).toNat : Int) == 45) = true := rfl
      clear hq hi hlt
      go_wp2_with fail
      clear hx0 hy
      go_loop [9, 10] (fun n x => ∃ q m : Nat, q ≤ D.length ∧ Hid (m = spell 0 (D.take q)) ∧ n = .int .i64 (-(m : Int)) ∧ x = .int .i64 (1 + (q : Int))) (fun _ x => D.length + 2 - (RowKit.intOf x).toNat)
      case atStart => exact ⟨0, 0, Nat.zero_le _, rfl, rfl, by simp⟩
      case round =>
        obtain ⟨q, m, hq, HM, rfl, rfl⟩ := hrel
        by_cases hql : q < D.length
        · have hst := spell_take D q hql
          have hle2 := spell_take_le D (q + 1)
          have hdg := HD.out D[q] (List.getElem_mem hql)
          have hgx : (45 :: D)[1 + q]? = some D[q] := by rw [show 1 + q = q + 1 by omega, List.getElem?_cons_succ, List.getElem?_eq_getElem hql]
          have hix := byte_at (s := 45 :: D) hgx (by simp [ByteArray.size]; omega)
          generalize D[q] = x at *
          rw [← HM.out] at hst
          rw [hst, HV.out] at hle2
          obtain ⟨d1, d2⟩ := digit_step hdg hle2 (by omega)
          have hd1 : (48 : Int) ≤ (x.toNat : Int) := by omega
          have hd2 : (x.toNat : Int) ≤ 57 := by omega
          have HM2 := Lib.hid hst.symm
          clear hst hgx hdg HM
          by_cases hm9 : m = 922337203685477580
          · have hx9 := d2 hm9
            subst hm9
            have hx8 : (x.toNat : Int) ≤ 56 := by omega
            clear d1 d2 hle2
            go_wp2_with fail
            go_round
            case rel => exact ⟨q + 1, 922337203685477580 * 10 + (x.toNat - 48), by omega, HM2.out, by congr 1; omega, by congr 1⟩
            case measure => simp [RowKit.intOf]; omega
          · have he : ((-(m : Int)) == -922337203685477580) = false := by rw [beq_eq_false_iff_ne]; omega
            have hm8 : (m : Int) ≤ 922337203685477579 := by omega
            clear d1 d2 hle2 hm9
            go_wp2_with fail
            go_round
            case rel => exact ⟨q + 1, m * 10 + (x.toNat - 48), by omega, HM2.out, by congr 1; omega, by congr 1⟩
            case measure => simp [RowKit.intOf]; omega
        · obtain rfl : q = D.length := by omega
          have hmv : m = v := by rw [HM.out, List.take_length, HV.out]
          subst hmv
          clear HM
          go_wp2_with fail
          refine (decimal_any (-(m : Int)) _ ⟨by omega, by omega⟩).mono ?_
          rintro e w3 ⟨rfl, g3⟩
          have r3 := r2.later g3
          have f1 := r3.free 1
          have c1 := r3.cell1
          have r4 := r3.put1 (k + i + 1)
          have g4 := grown_trans (grown_of_grows (g2.then g3) (some b)) (grown_set w3 b 1 (.int .i64 ((k + i + 1 : Nat) : Int)))
          have hcmp : (itoa (-(m : Int)) == 45 :: D) = true := by rw [HI.out]; simp
          go_wp2_with fail
          go_ret2
          exact ⟨rfl, r4, g4⟩

end Go.Proofs.YtjiljkiedidmeaaDoor
