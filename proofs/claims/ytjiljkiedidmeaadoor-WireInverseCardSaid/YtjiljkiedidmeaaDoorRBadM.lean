/- The reference's number: no int at the position. -/
import Derived.Test.YtjiljkiedidmeaaDoorRNum
namespace Go.Proofs.YtjiljkiedidmeaaDoor
open Go.RowKit Go.Lib

set_option maxRecDepth 100000 in
set_option maxHeartbeats 2000000 in
theorem number_badn21 (b k j : Nat) (s D : List UInt8) (c : UInt8) (w : World) (hs : Short s) (h : RefAt w b s k false) (hj : j ≤ 21) (hj2 : 21 ≤ j) (hd : s[k + j]? = some c) (hS : Seen s k j c)
    (ha : ByteArray.extract ⟨s.toArray⟩ k (k + j) = ⟨(45 :: D).toArray⟩) (hDl : D.length ≤ 21) (hN : ∀ n, InI n → itoa n ≠ 45 :: D) :
    Calls Tryd.prog 45 #[.pointer (some ⟨b, 0, none⟩), .int .u8 (c.toNat : Int)] w fun e w' => e = .returned (.tuple #[.int .i64 0, .bool false]) ∧ Grows w w' := by
  have HN := Lib.hid hN
  clear hN
  have HS := Lib.hid hS
  clear hS
  have hkl : k + j < s.length := by
    rcases Nat.lt_or_ge (k + j) s.length with h1 | h1
    · exact h1
    · rw [List.getElem?_eq_none h1] at hd; cases hd
  have HX := Lib.hid (byte_at hd (by simpa [ByteArray.size] using hkl))
  have HA := Lib.hid ha
  clear hd ha
  have c0 := h.cell0
  have c1 := h.cell1
  have c2 := h.cell2
  have hk0 : (0 : Int) ≤ (k : Int) := by omega
  unfold Short at hs
  go_enter Tryd.func45, Tryd.ntmps45
  go_wp2_with fail
  go_loop [6] (fun x => ∃ i : Nat, i ≤ j ∧ x = .int .i64 ((k : Int) + (i : Int))) (fun x => s.length - (RowKit.intOf x).toNat)
  case atStart => exact ⟨0, Nat.zero_le _, by simp⟩
  case round =>
    obtain ⟨i, hi, rfl⟩ := hrel
    by_cases hlt : i < j
    · obtain ⟨d, hd, hne⟩ := HS.out i hlt
      have hki : k + i < s.length := by omega
      have hix := byte_at hd (by simpa [ByteArray.size] using hki)
      have hb : ((d.toNat : Int) != (c.toNat : Int)) = true := by rw [bne_iff_ne]; intro e; exact hne (UInt8.toNat_inj.1 (Int.ofNat_inj.1 e))
      have hl1 : (k : Int) + (i : Int) < (s.length : Int) := by omega
      clear hd hne
      go_wp2_with fail
      go_round
      case rel => exact ⟨i + 1, by omega, by congr 1⟩
      case measure => simp [RowKit.intOf]; omega
    · obtain rfl : i = j := by omega
      have h21 : (k : Int) + 21 ≤ (k : Int) + (i : Int) := by omega
      have hlt2 : (k : Int) + (i : Int) < (s.length : Int) := by omega
      have hq : ((k : Int) + (i : Int) == (s.length : Int)) = false := by rw [beq_eq_false_iff_ne]; omega
      have hx := HX.out
      have hb : ((c.toNat : Int) != (c.toNat : Int)) = false := by simp
      go_wp2_with fail
      have hxs := HA.out
      have hk1 : (k : Int) ≤ (k : Int) + (i : Int) := by omega
      have hk2 : (0 : Int) ≤ (k : Int) + (i : Int) := by omega
      have hk3 : ((k : Int) + (i : Int)).toNat = k + i := by omega
      go_quiet (fail)
      have g2 := grows_drewN w nq
      have r2 := h.later g2
      generalize w.drewN nq = w2 at *
      clear hxs hx hb hk3
      have hx0 := byte_at (s := 45 :: D) (k := 0) rfl (by simp [ByteArray.size])
      have hy : (((45 : UInt8).toNat : Int) == 45) = true := rfl
      clear hq hi hlt
      go_wp2_with fail
      clear hx0 hy
      go_loop [9, 10] (fun n x => ∃ q m : Nat, q ≤ D.length ∧ m ≤ 9223372036854775808 ∧ n = .int .i64 (-(m : Int)) ∧ x = .int .i64 (1 + (q : Int))) (fun _ x => D.length + 2 - (RowKit.intOf x).toNat)
      case atStart => exact ⟨0, 0, Nat.zero_le _, Nat.zero_le _, rfl, by simp⟩
      case round =>
        obtain ⟨q, m, hq, hm, rfl, rfl⟩ := hrel
        by_cases hql : q < D.length
        · have hgx : (45 :: D)[1 + q]? = some D[q] := by rw [show 1 + q = q + 1 by omega, List.getElem?_cons_succ, List.getElem?_eq_getElem hql]
          have hix := byte_at (s := 45 :: D) hgx (by simp [ByteArray.size]; omega)
          generalize D[q] = x at *
          clear hgx
          have hx255 : (x.toNat : Int) ≤ 255 := by have := x.toNat_lt; omega
          have hx0 : (0 : Int) ≤ (x.toNat : Int) := by omega
          by_cases b1 : x.toNat < 48
          · have b1' : (x.toNat : Int) < 48 := by omega
            go_wp2_with fail
            go_ret2
            exact ⟨rfl, g2⟩
          · have b1' : (48 : Int) ≤ (x.toNat : Int) := by omega
            by_cases b2 : 57 < x.toNat
            · have b2' : (57 : Int) < (x.toNat : Int) := by omega
              go_wp2_with fail
              go_ret2
              exact ⟨rfl, g2⟩
            · have b2' : (x.toNat : Int) ≤ 57 := by omega
              by_cases b3 : 922337203685477580 < m
              · have b3' : (922337203685477580 : Int) < (m : Int) := by omega
                go_wp2_with fail
                go_ret2
                exact ⟨rfl, g2⟩
              · have b3' : (m : Int) ≤ 922337203685477580 := by omega
                by_cases b4 : m = 922337203685477580
                · subst b4
                  by_cases b5 : 56 < x.toNat
                  · have b5' : (56 : Int) < (x.toNat : Int) := by omega
                    go_wp2_with fail
                    go_ret2
                    exact ⟨rfl, g2⟩
                  · have b5' : (x.toNat : Int) ≤ 56 := by omega
                    go_wp2_with fail
                    go_round
                    case rel => exact ⟨q + 1, 922337203685477580 * 10 + (x.toNat - 48), by omega, by omega, by congr 1; omega, by congr 1⟩
                    case measure => simp [RowKit.intOf]; omega
                · have he : ((-(m : Int)) == -922337203685477580) = false := by rw [beq_eq_false_iff_ne]; omega
                  have hm8 : (m : Int) ≤ 922337203685477579 := by omega
                  go_wp2_with fail
                  go_round
                  case rel => exact ⟨q + 1, m * 10 + (x.toNat - 48), by omega, by omega, by congr 1; omega, by congr 1⟩
                  case measure => simp [RowKit.intOf]; omega
        · obtain rfl : q = D.length := by omega
          go_wp2_with fail
          refine (decimal_any (-(m : Int)) _ ⟨by omega, by omega⟩).mono ?_
          rintro e w3 ⟨rfl, g3⟩
          have hcmp : (itoa (-(m : Int)) == 45 :: D) = false := by rw [beq_eq_false_iff_ne]; exact HN.out (-(m : Int)) ⟨by omega, by omega⟩
          go_wp2_with fail
          go_ret2
          exact ⟨rfl, g2.then g3⟩

end Go.Proofs.YtjiljkiedidmeaaDoor
