/- The reference's number: the int at the position. -/
import Derived.Test.YtjiljkiedidmeaaDoorRef
namespace Go.Proofs.YtjiljkiedidmeaaDoor
open Go.RowKit Go.Lib

/-- How far the search for the mark goes: at most 21 bytes. -/
def Seen (s : List UInt8) (k j : Nat) (c : UInt8) : Prop := ∀ i, i < j → ∃ d, s[k + i]? = some d ∧ d ≠ c
theorem scan (s : List UInt8) (k : Nat) (c : UInt8) (hk : k ≤ s.length) :
    ∃ j, j ≤ 21 ∧ k + j ≤ s.length ∧ Seen s k j c ∧ (k + j = s.length ∨ (k + j < s.length ∧ j = 21 ∧ ∃ d, s[k + j]? = some d ∧ d ≠ c) ∨ s[k + j]? = some c) := by
  have key : ∀ m j, j + m = 21 → k + j ≤ s.length → Seen s k j c → ∃ j, j ≤ 21 ∧ k + j ≤ s.length ∧ Seen s k j c ∧ (k + j = s.length ∨ (k + j < s.length ∧ j = 21 ∧ ∃ d, s[k + j]? = some d ∧ d ≠ c) ∨ s[k + j]? = some c) := by
    intro m
    induction m with
    | zero =>
      intro j hj h1 h2
      refine ⟨j, by omega, h1, h2, ?_⟩
      by_cases h3 : k + j < s.length
      · have h4 := List.getElem?_eq_getElem h3
        by_cases h5 : s[k + j] = c
        · exact .inr (.inr (by rw [h4, h5]))
        · exact .inr (.inl ⟨h3, by omega, _, h4, h5⟩)
      · exact .inl (by omega)
    | succ m ih =>
      intro j hj h1 h2
      by_cases h3 : k + j < s.length
      · have h4 := List.getElem?_eq_getElem h3
        by_cases h5 : s[k + j] = c
        · exact ⟨j, by omega, h1, h2, .inr (.inr (by rw [h4, h5]))⟩
        · refine ih (j + 1) (by omega) (by omega) ?_
          intro i hi
          by_cases h6 : i < j
          · exact h2 i h6
          · obtain rfl : i = j := by omega
            exact ⟨_, h4, h5⟩
      · exact ⟨j, by omega, h1, h2, .inl (by omega)⟩
  exact key 21 0 (by omega) (by omega) (fun i hi => by omega)

theorem ret_no : Ending.returned (.tuple #[.int .i64 0, .bool false]) = .returned (.tuple #[.int .i64 0, .bool false]) := rfl

set_option maxHeartbeats 400000 in
theorem number_wrong (b k : Nat) (s : List UInt8) (c : Int) (w : World) (h : RefAt w b s k true) :
    Calls Tryd.prog 45 #[.pointer (some ⟨b, 0, none⟩), .int .u8 c] w fun e w' => e = .returned (.tuple #[.int .i64 0, .bool false]) ∧ w = w' := by
  have c2 := h.cell2
  go_enter Tryd.func45, Tryd.ntmps45
  go_wp2_with fail
  go_ret2
  exact ⟨rfl, rfl⟩

theorem spell_take (l : List UInt8) (i : Nat) (h : i < l.length) : spell 0 (l.take (i + 1)) = spell 0 (l.take i) * 10 + (l[i].toNat - 48) := by
  rw [List.take_succ_eq_append_getElem h, spell_append]
  rfl
theorem spell_take_le (l : List UInt8) (i : Nat) : spell 0 (l.take i) ≤ spell 0 l := by
  have h : spell 0 l = spell (spell 0 (l.take i)) (l.drop i) := by rw [← spell_append, List.take_append_drop]
  rw [h]
  exact spell_le _ _
/-- A digit, as the walk sees it. -/
theorem digit_step {x m v : Nat} (hx : 48 ≤ x ∧ x ≤ 57) (hm : m * 10 + (x - 48) ≤ v) (hv : v ≤ 9223372036854775808) :
    m ≤ 922337203685477580 ∧ (m = 922337203685477580 → x ≤ 56) := by omega

set_option maxRecDepth 100000 in
set_option maxHeartbeats 1000000 in
theorem number_end (b k j : Nat) (s : List UInt8) (c : UInt8) (w : World) (hs : Short s) (h : RefAt w b s k false) (hj : j ≤ 21) (hkj : k + j = s.length) (hS : Seen s k j c) :
    Calls Tryd.prog 45 #[.pointer (some ⟨b, 0, none⟩), .int .u8 (c.toNat : Int)] w fun e w' => e = .returned (.tuple #[.int .i64 0, .bool false]) ∧ w = w' := by
  have HS := Lib.hid hS
  clear hS
  have hkl : k + j ≤ s.length := by omega
  have hkg : s.length ≤ k + j := by omega
  have HJ := Lib.hid hkj
  clear hkj
  have c0 := h.cell0
  have c1 := h.cell1
  have c2 := h.cell2
  have hk0 : (0 : Int) ≤ (k : Int) := by omega
  unfold Short at hs
  go_enter Tryd.func45, Tryd.ntmps45
  go_wp2_with fail
  go_loop [6] (fun x => ∃ i : Nat, i ≤ j ∧ x = .int .i64 ((k : Int) + (i : Int))) (fun x => s.length - (RowKit.intOf x).toNat)
  case atStart => exact ⟨0, Nat.zero_le _, by simp⟩
  case round =>
    obtain ⟨i, hi, rfl⟩ := hrel
    by_cases hlt : i < j
    · obtain ⟨d, hd, hne⟩ := HS.out i hlt
      have hki : k + i < s.length := by omega
      have hix := byte_at hd (by simpa [ByteArray.size] using hki)
      have hb : ((d.toNat : Int) != (c.toNat : Int)) = true := by rw [bne_iff_ne]; intro e; exact hne (UInt8.toNat_inj.1 (Int.ofNat_inj.1 e))
      have hl1 : (k : Int) + (i : Int) < (s.length : Int) := by omega
      clear hd hne
      go_wp2_with fail
      go_round
      case rel => exact ⟨i + 1, by omega, by congr 1⟩
      case measure => simp [RowKit.intOf]; omega
    · obtain rfl : i = j := by omega
      have hle : (s.length : Int) ≤ (k : Int) + (i : Int) := by omega
      have hq : ((k : Int) + (i : Int) == (s.length : Int)) = true := by rw [beq_iff_eq]; omega
      go_wp2_with fail
      go_ret2
      exact ⟨rfl, rfl⟩

set_option maxRecDepth 100000 in
set_option maxHeartbeats 1000000 in
theorem number_far (b k j : Nat) (s : List UInt8) (c d : UInt8) (w : World) (hs : Short s) (h : RefAt w b s k false) (hj : j = 21) (hkj : k + j < s.length) (hd : s[k + j]? = some d) (hne : d ≠ c) (hS : Seen s k j c) :
    Calls Tryd.prog 45 #[.pointer (some ⟨b, 0, none⟩), .int .u8 (c.toNat : Int)] w fun e w' => e = .returned (.tuple #[.int .i64 0, .bool false]) ∧ w = w' := by
  have HS := Lib.hid hS
  clear hS
  have HJ := Lib.hid hj
  have hj1 : j ≤ 21 := by omega
  have hj2 : 21 ≤ j := by omega
  have HX := Lib.hid (byte_at hd (by simpa [ByteArray.size] using hkj))
  have HB : Hid (((d.toNat : Int) != (c.toNat : Int)) = true) := by show _ = true; rw [bne_iff_ne]; intro e; exact hne (UInt8.toNat_inj.1 (Int.ofNat_inj.1 e))
  clear hj hd hne
  have c0 := h.cell0
  have c1 := h.cell1
  have c2 := h.cell2
  have hk0 : (0 : Int) ≤ (k : Int) := by omega
  unfold Short at hs
  go_enter Tryd.func45, Tryd.ntmps45
  go_wp2_with fail
  go_loop [6] (fun x => ∃ i : Nat, i ≤ j ∧ x = .int .i64 ((k : Int) + (i : Int))) (fun x => s.length - (RowKit.intOf x).toNat)
  case atStart => exact ⟨0, Nat.zero_le _, by simp⟩
  case round =>
    obtain ⟨i, hi, rfl⟩ := hrel
    by_cases hlt : i < j
    · obtain ⟨d, hd, hne⟩ := HS.out i hlt
      have hki : k + i < s.length := by omega
      have hix := byte_at hd (by simpa [ByteArray.size] using hki)
      have hb : ((d.toNat : Int) != (c.toNat : Int)) = true := by rw [bne_iff_ne]; intro e; exact hne (UInt8.toNat_inj.1 (Int.ofNat_inj.1 e))
      have hl1 : (k : Int) + (i : Int) < (s.length : Int) := by omega
      clear hd hne
      go_wp2_with fail
      go_round
      case rel => exact ⟨i + 1, by omega, by congr 1⟩
      case measure => simp [RowKit.intOf]; omega
    · obtain rfl : i = j := by omega
      have hle : (k : Int) + 21 ≤ (k : Int) + (i : Int) := by omega
      have hlt2 : (k : Int) + (i : Int) < (s.length : Int) := by omega
      have hq : ((k : Int) + (i : Int) == (s.length : Int)) = false := by rw [beq_eq_false_iff_ne]; omega
      have hx := HX.out
      have hb := HB.out
      go_wp2_with fail
      go_ret2
      exact ⟨rfl, rfl⟩

set_option maxRecDepth 100000 in
set_option maxHeartbeats 2000000 in
theorem number_pos (b k j v : Nat) (s L : List UInt8) (c : UInt8) (w : World) (hs : Short s) (h : RefAt w b s k false) (hv : (v : Int) ≤ 9223372036854775807) (hj : j ≤ 20) (hd : s[k + j]? = some c) (hS : Seen s k j c)
    (ha : ByteArray.extract ⟨s.toArray⟩ k (k + j) = ⟨L.toArray⟩) (hL : decDigits v = L) :
    Calls Tryd.prog 45 #[.pointer (some ⟨b, 0, none⟩), .int .u8 (c.toNat : Int)] w (RefPost w b (.tuple #[.int .i64 v, .bool true]) s (k + j + 1) false) := by
  have HS := Lib.hid hS
  clear hS
  have hkl : k + j < s.length := by
    rcases Nat.lt_or_ge (k + j) s.length with h1 | h1
    · exact h1
    · rw [List.getElem?_eq_none h1] at hd; cases hd
  have HX := Lib.hid (byte_at hd (by simpa [ByteArray.size] using hkl))
  have HA := Lib.hid ha
  clear hd ha
  have HD : Hid (∀ x ∈ L, 48 ≤ x.toNat ∧ x.toNat ≤ 57) := by rw [← hL]; exact decDigits_mem v
  have HV : Hid (spell 0 L = v) := by rw [← hL]; exact spell_digits v
  have HI : Hid (itoa (v : Int) = L) := by rw [← hL]; exact itoa_nn (by omega)
  have hL0 : L ≠ [] := by rw [← hL]; exact decDigits_ne v
  have hL1 : L.length ≤ 20 := by
    have := itoa_length (n := (v : Int)) ⟨by omega, hv⟩
    rw [HI.out] at this
    exact this
  have hL2 : 0 < L.length := List.length_pos_iff.2 hL0
  clear hL hL0
  have c0 := h.cell0
  have c1 := h.cell1
  have c2 := h.cell2
  have hk0 : (0 : Int) ≤ (k : Int) := by omega
  unfold Short at hs
  go_enter Tryd.func45, Tryd.ntmps45
  go_wp2_with fail
  go_loop [6] (fun x => ∃ i : Nat, i ≤ j ∧ x = .int .i64 ((k : Int) + (i : Int))) (fun x => s.length - (RowKit.intOf x).toNat)
  case atStart => exact ⟨0, Nat.zero_le _, by simp⟩
  case round =>
    obtain ⟨i, hi, rfl⟩ := hrel
    by_cases hlt : i < j
    · obtain ⟨d, hd, hne⟩ := HS.out i hlt
      have hki : k + i < s.length := by omega
      have hix := byte_at hd (by simpa [ByteArray.size] using hki)
      have hb : ((d.toNat : Int) != (c.toNat : Int)) = true := by rw [bne_iff_ne]; intro e; exact hne (UInt8.toNat_inj.1 (Int.ofNat_inj.1 e))
      have hl1 : (k : Int) + (i : Int) < (s.length : Int) := by omega
      clear hd hne
      go_wp2_with fail
      go_round
      case rel => exact ⟨i + 1, by omega, by congr 1⟩
      case measure => simp [RowKit.intOf]; omega
    · obtain rfl : i = j := by omega
      have h21 : (k : Int) + (i : Int) < (k : Int) + 21 := by omega
      have hlt2 : (k : Int) + (i : Int) < (s.length : Int) := by omega
      have hq : ((k : Int) + (i : Int) == (s.length : Int)) = false := by rw [beq_eq_false_iff_ne]; omega
      have hx := HX.out
      have hb : ((c.toNat : Int) != (c.toNat : Int)) = false := by simp
      go_wp2_with fail
      have hxs := HA.out
      have hk1 : (k : Int) ≤ (k : Int) + (i : Int) := by omega
      have hk2 : (0 : Int) ≤ (k : Int) + (i : Int) := by omega
      have hk3 : ((k : Int) + (i : Int)).toNat = k + i := by omega
      go_quiet (fail)
      have g2 := grows_drewN w nq
      have r2 := h.later g2
      generalize w.drewN nq = w2 at *
      clear hxs hx hb hk3
      have hg0 := List.getElem?_eq_getElem hL2
      have hx0 := byte_at hg0 (by simpa [ByteArray.size] using hL2)
      have hdg0 := HD.out L[0] (List.getElem_mem hL2)
      generalize L[0] = y at *
      have hy : ((y.toNat : Int) == 45) = false := by rw [beq_eq_false_iff_ne]; omega
      clear hg0 hdg0 hq hi hlt
      go_wp2_with fail
      clear hx0 hy
      go_loop [9, 10] (fun n x => ∃ q m : Nat, q ≤ L.length ∧ Hid (m = spell 0 (L.take q)) ∧ n = .int .i64 (-(m : Int)) ∧ x = .int .i64 ((q : Int))) (fun _ x => L.length + 1 - (RowKit.intOf x).toNat)
      case atStart => exact ⟨0, 0, Nat.zero_le _, rfl, rfl, by simp⟩
      case round =>
        obtain ⟨q, m, hq, HM, rfl, rfl⟩ := hrel
        by_cases hql : q < L.length
        · have hst := spell_take L q hql
          have hle2 := spell_take_le L (q + 1)
          have hdg := HD.out L[q] (List.getElem_mem hql)
          have hgx := List.getElem?_eq_getElem hql
          have hix := byte_at hgx (by simpa [ByteArray.size] using hql)
          generalize L[q] = x at *
          rw [← HM.out] at hst
          rw [hst, HV.out] at hle2
          obtain ⟨d1, d2⟩ := digit_step hdg hle2 (by omega)
          have hd1 : (48 : Int) ≤ (x.toNat : Int) := by omega
          have hd2 : (x.toNat : Int) ≤ 57 := by omega
          have HM2 := Lib.hid hst.symm
          clear hst hgx hdg HM
          by_cases hm9 : m = 922337203685477580
          · have hx9 := d2 hm9
            subst hm9
            have hx8 : (x.toNat : Int) ≤ 56 := by omega
            clear d1 d2 hle2
            go_wp2_with fail
            go_round
            case rel => exact ⟨q + 1, 922337203685477580 * 10 + (x.toNat - 48), by omega, HM2.out, by congr 1; omega, by congr 1⟩
            case measure => simp [RowKit.intOf]; omega
          · have he : ((-(m : Int)) == -922337203685477580) = false := by rw [beq_eq_false_iff_ne]; omega
            have hm8 : (m : Int) ≤ 922337203685477579 := by omega
            clear d1 d2 hle2 hm9
            go_wp2_with fail
            go_round
            case rel => exact ⟨q + 1, m * 10 + (x.toNat - 48), by omega, HM2.out, by congr 1; omega, by congr 1⟩
            case measure => simp [RowKit.intOf]; omega
        · obtain rfl : q = L.length := by omega
          have hmv : m = v := by rw [HM.out, List.take_length, HV.out]
          subst hmv
          clear HM
          by_cases hv0 : m = 0
          · subst hv0
            go_wp2_with fail
            refine (decimal_any 0 _ ⟨by omega, by omega⟩).mono ?_
            rintro e w3 ⟨rfl, g3⟩
            have r3 := r2.later g3
            have f1 := r3.free 1
            have c1 := r3.cell1
            have r4 := r3.put1 (k + i + 1)
            have g4 := grown_trans (grown_of_grows (g2.then g3) (some b)) (grown_set w3 b 1 (.int .i64 ((k + i + 1 : Nat) : Int)))
            have HE : Hid (itoa 0 = L) := HI.out
            have hcmp : (itoa 0 == L) = true := by rw [HE.out]; simp
            go_wp2_with fail
            go_ret2
            exact ⟨rfl, r4, g4⟩
          · have hv1 : ((-(m : Int)) == (m : Int)) = false := by rw [beq_eq_false_iff_ne]; omega
            go_wp2_with fail
            refine (decimal_any (m : Int) _ ⟨by omega, by omega⟩).mono ?_
            rintro e w3 ⟨rfl, g3⟩
            have r3 := r2.later g3
            have f1 := r3.free 1
            have c1 := r3.cell1
            have r4 := r3.put1 (k + i + 1)
            have g4 := grown_trans (grown_of_grows (g2.then g3) (some b)) (grown_set w3 b 1 (.int .i64 ((k + i + 1 : Nat) : Int)))
            have hcmp : (itoa (m : Int) == L) = true := by rw [HI.out]; simp
            go_wp2_with fail
            go_ret2
            exact ⟨rfl, r4, g4⟩

end Go.Proofs.YtjiljkiedidmeaaDoor
