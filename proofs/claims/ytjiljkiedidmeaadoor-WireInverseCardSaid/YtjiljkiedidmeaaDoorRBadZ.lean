/- The reference's number: no int at the position. -/
import Derived.Test.YtjiljkiedidmeaaDoorRNum
namespace Go.Proofs.YtjiljkiedidmeaaDoor
open Go.RowKit Go.Lib

set_option maxRecDepth 100000 in
set_option maxHeartbeats 2000000 in
theorem number_bad0 (b k j : Nat) (s D : List UInt8) (c : UInt8) (w : World) (hs : Short s) (h : RefAt w b s k false) (hj : j ≤ 20) (hd : s[k + j]? = some c) (hS : Seen s k j c)
    (ha : ByteArray.extract ⟨s.toArray⟩ k (k + j) = ⟨(D).toArray⟩) (hDl : D.length ≤ 21) (hD0 : D = []) (hN : ∀ n, InI n → itoa n ≠ D) :
    Calls Tryd.prog 45 #[.pointer (some ⟨b, 0, none⟩), .int .u8 (c.toNat : Int)] w fun e w' => e = .returned (.tuple #[.int .i64 0, .bool false]) ∧ Grows w w' := by
  have HN := Lib.hid hN
  clear hN
  have HS := Lib.hid hS
  clear hS
  have hkl : k + j < s.length := by
    rcases Nat.lt_or_ge (k + j) s.length with h1 | h1
    · exact h1
    · rw [List.getElem?_eq_none h1] at hd; cases hd
  have HX := Lib.hid (byte_at hd (by simpa [ByteArray.size] using hkl))
  have HA := Lib.hid ha
  clear hd ha
  have c0 := h.cell0
  have c1 := h.cell1
  have c2 := h.cell2
  have hk0 : (0 : Int) ≤ (k : Int) := by omega
  unfold Short at hs
  go_enter Tryd.func45, Tryd.ntmps45
  go_wp2_with fail
  go_loop [6] (fun x => ∃ i : Nat, i ≤ j ∧ x = .int .i64 ((k : Int) + (i : Int))) (fun x => s.length - (RowKit.intOf x).toNat)
  case atStart => exact ⟨0, Nat.zero_le _, by simp⟩
  case round =>
    obtain ⟨i, hi, rfl⟩ := hrel
    by_cases hlt : i < j
    · obtain ⟨d, hd, hne⟩ := HS.out i hlt
      have hki : k + i < s.length := by omega
      have hix := byte_at hd (by simpa [ByteArray.size] using hki)
      have hb : ((d.toNat : Int) != (c.toNat : Int)) = true := by rw [bne_iff_ne]; intro e; exact hne (UInt8.toNat_inj.1 (Int.ofNat_inj.1 e))
      have hl1 : (k : Int) + (i : Int) < (s.length : Int) := by omega
      clear hd hne
      go_wp2_with fail
      go_round
      case rel => exact ⟨i + 1, by omega, by congr 1⟩
      case measure => simp [RowKit.intOf]; omega
    · obtain rfl : i = j := by omega
      have h21 : (k : Int) + (i : Int) < (k : Int) + 21 := by omega
      have hlt2 : (k : Int) + (i : Int) < (s.length : Int) := by omega
      have hq : ((k : Int) + (i : Int) == (s.length : Int)) = false := by rw [beq_eq_false_iff_ne]; omega
      have hx := HX.out
      have hb : ((c.toNat : Int) != (c.toNat : Int)) = false := by simp
      go_wp2_with fail
      have hxs := HA.out
      have hk1 : (k : Int) ≤ (k : Int) + (i : Int) := by omega
      have hk2 : (0 : Int) ≤ (k : Int) + (i : Int) := by omega
      have hk3 : ((k : Int) + (i : Int)).toNat = k + i := by omega
      go_quiet (fail)
      have g2 := grows_drewN w nq
      have r2 := h.later g2
      generalize w.drewN nq = w2 at *
      clear hxs hx hb hk3
      subst hD0
      clear hq hi hlt
      go_wp2_with fail
      go_loop [9, 10] (fun n x => n = .int .i64 0 ∧ x = .int .i64 0) (fun _ _ => 0)
      case atStart => exact ⟨rfl, rfl⟩
      case round =>
        obtain ⟨rfl, rfl⟩ := hrel
        go_wp2_with fail
        refine (decimal_any 0 _ ⟨by omega, by omega⟩).mono ?_
        rintro e w3 ⟨rfl, g3⟩
        have hcmp : (itoa 0 == []) = false := by rw [beq_eq_false_iff_ne]; exact HN.out 0 ⟨by omega, by omega⟩
        go_wp2_with fail
        go_ret2
        exact ⟨rfl, g2.then g3⟩

end Go.Proofs.YtjiljkiedidmeaaDoor
