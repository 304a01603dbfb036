/- The serializing functions of wire and of its reference. -/
import Derived.Test.YtjiljkiedidmeaaDoorBase
namespace Go.Proofs.YtjiljkiedidmeaaDoor
open Go.RowKit Go.Lib

set_option maxHeartbeats 400000 in
theorem int_any (n : Int) (w : World) (hn : InI n) (E : Env w) :
    Calls Tryd.prog 12 #[.int .i64 n] w fun e w' => e = .returned (.string ⟨(encI n).toArray⟩) ∧ Grows w w' := by
  have hl := itoa_length hn
  go_enter Tryd.func12, Tryd.ntmps12
  go_wp2_with fail
  refine (Tryd.strconv_Itoa n hn.1 hn.2 _ E.tab).mono ?_
  rintro e w1 ⟨rfl, k, os, rfl⟩
  have hg := grows_grow w k os
  generalize Sort.grow (w.drewN k) os = w1 at *
  go_wp2_with fail
  go_ret
  exact ⟨ret_str (by simp [encI]), hg⟩

set_option maxHeartbeats 400000 in
theorem text_any (s : ByteArray) (w : World) (hs : s.size ≤ 4611686018427387904) (E : Env w) :
    Calls Tryd.prog 14 #[.string s] w fun e w' => e = .returned (.string ⟨(encT s.data.toList).toArray⟩) ∧ Grows w w' := by
  have hn : InI (s.size : Int) := ⟨by omega, by omega⟩
  have hl := itoa_length hn
  go_enter Tryd.func14, Tryd.ntmps14
  go_wp2_with fail
  refine (Tryd.strconv_Itoa _ hn.1 hn.2 _ E.tab).mono ?_
  rintro e w1 ⟨rfl, k, os, rfl⟩
  have hg := grows_grow w k os
  generalize Sort.grow (w.drewN k) os = w1 at *
  go_wp2_with fail
  go_ret
  exact ⟨ret_str (by simp [encT]), hg⟩

theorem itoa_digit {n : Int} (h0 : 0 ≤ n) (h9 : n < 10) : itoa n = [UInt8.ofNat (48 + n.toNat)] := by
  rw [itoa_nn h0, decDigits_one (by omega)]
theorem itoa_up {n : Int} (h : 10 ≤ n) : itoa n = itoa (n / 10) ++ itoa (n % 10) := by
  rw [itoa_nn (by omega), itoa_nn (show 0 ≤ n / 10 by omega), itoa_nn (show 0 ≤ n % 10 by omega), decDigits, dif_neg (by omega), decDigits_one (show (n % 10).toNat < 10 by omega),
    show (n / 10).toNat = n.toNat / 10 by omega, show (n % 10).toNat = n.toNat % 10 by omega]
theorem itoa_low {n : Int} (h0 : n < 0) (h9 : -10 < n) : itoa n = 45 :: itoa (-n) := by
  rw [itoa_neg h0, itoa_nn (by omega), show n.natAbs = (-n).toNat by omega]
theorem itoa_down {n : Int} (h : n ≤ -10) : itoa n = itoa (-(-n / 10)) ++ itoa (-n % 10) := by
  rw [itoa_neg (by omega), itoa_neg (show -(-n / 10) < 0 by omega), itoa_nn (show 0 ≤ -n % 10 by omega), decDigits, dif_neg (by omega), decDigits_one (show (-n % 10).toNat < 10 by omega),
    show (-(-n / 10)).natAbs = n.natAbs / 10 by omega, show (-n % 10).toNat = n.natAbs % 10 by omega]
  rfl

set_option maxRecDepth 100000 in
set_option maxHeartbeats 400000 in
theorem dec_digit (n : Int) (w : World) (h0 : 0 ≤ n) (h9 : n < 10) :
    Calls Tryd.prog 39 #[.int .i64 n] w fun e w' => e = .returned (.string ⟨(itoa n).toArray⟩) ∧ Grows w w' := by
  have hc : (convert 31 9 (Value.slice (some { block := w.heap.size, off := 0 }) 1 1)).run Tryd.prog (w.alloc (Obj.cells #[Value.int IntKind.u8 (48 + n)] 5)) = .ok (.string ⟨(itoa n).toArray⟩) (w.alloc (Obj.cells #[Value.int IntKind.u8 (48 + n)] 5)) := by
    rw [itoa_digit h0 h9]
    refine run_convert_bytes_back _ 31 9 5 ⟨w.heap.size, 0, none⟩ 1 [UInt8.ofNat (48 + n.toNat)] Tryd.underlying31 Tryd.underlying5 Tryd.underlying9 ?_
    intro j hj
    match j, hj with
    | 0, _ =>
      rw [show (⟨w.heap.size, 0, none⟩ : Addr).add 0 = ⟨w.heap.size, 0, none⟩ from rfl, World.cell?_alloc_new]
      simp only [List.getElem_cons_zero, ofNat_digit n.toNat (by omega)]
      rw [show ((48 + n.toNat : Nat) : Int) = 48 + n by omega]
      rfl
  go_enter Tryd.func39, Tryd.ntmps39
  go_wp2_with fail
  go_ret
  exact ⟨rfl, (Below.refl _ _).alloc (Nat.le_refl _) _⟩

theorem decimal_k (k : Nat) : ∀ (n : Int) (w : World), n.natAbs ≤ k → InI n →
    Calls Tryd.prog 39 #[.int .i64 n] w fun e w' => e = .returned (.string ⟨(itoa n).toArray⟩) ∧ Grows w w' := by
  induction k using Nat.strongRecOn with
  | _ k ih =>
    intro n w hk hn
    obtain ⟨hn1, hn2⟩ := hn
    have IH := Lib.hid ih
    clear ih
    by_cases c1 : 0 ≤ n ∧ n < 10
    · exact dec_digit n w c1.1 c1.2
    · by_cases c2 : 10 ≤ n
      · have hu := Lib.hid (itoa_up c2)
        have hl := itoa_length (n := n / 10) ⟨by omega, by omega⟩
        have hl2 := itoa_length (n := n % 10) ⟨by omega, by omega⟩
        clear c1
        go_enter Tryd.func39, Tryd.ntmps39
        go_wp2_with fail
        refine (IH.out (n / 10).natAbs (by omega) (n / 10) _ (Nat.le_refl _) ⟨by omega, by omega⟩).mono ?_
        rintro e w1 ⟨rfl, hg1⟩
        go_wp2_with fail
        refine (dec_digit (n % 10) _ (by omega) (by omega)).mono ?_
        rintro e w2 ⟨rfl, hg2⟩
        go_wp2_with fail
        go_ret
        exact ⟨ret_str (by rw [hu.out]; simp), hg1.then hg2⟩
      · obtain ⟨m, rfl⟩ : ∃ m : Int, n = -m := ⟨-n, by omega⟩
        have e2 : (-m).tmod 10 = -(m % 10) := by rw [Int.neg_tmod, Int.tmod_eq_emod_of_nonneg (by omega)]
        have hm : 1 ≤ m := by omega
        clear c1 c2
        by_cases c3 : m < 10
        · have hu := Lib.hid (itoa_low (n := -m) (by omega) (by omega))
          have hl := itoa_length (n := m) ⟨by omega, by omega⟩
          have e1 : (-m).tdiv 10 = 0 := by rw [Int.neg_tdiv, Int.tdiv_eq_ediv_of_nonneg (by omega)]; omega
          have e3 : m % 10 = m := by omega
          go_enter Tryd.func39, Tryd.ntmps39
          go_wp2_with fail
          refine (dec_digit m _ (by omega) (by omega)).mono ?_
          rintro e w2 ⟨rfl, hg2⟩
          go_wp2_with fail
          go_ret
          exact ⟨ret_str (by rw [hu.out]; simp), hg2⟩
        · have hu := Lib.hid (itoa_down (n := -m) (by omega))
          have hl := itoa_length (n := -(m / 10)) ⟨by omega, by omega⟩
          have hl2 := itoa_length (n := m % 10) ⟨by omega, by omega⟩
          have e1 : (-m).tdiv 10 = -(m / 10) := by rw [Int.neg_tdiv, Int.tdiv_eq_ediv_of_nonneg (by omega)]
          have h3 : ((-(m / 10)) == 0) = false := by rw [beq_eq_false_iff_ne]; omega
          go_enter Tryd.func39, Tryd.ntmps39
          go_wp2_with fail
          refine (IH.out (-(m / 10)).natAbs (by omega) (-(m / 10)) _ (Nat.le_refl _) ⟨by omega, by omega⟩).mono ?_
          rintro e w1 ⟨rfl, hg1⟩
          go_wp2_with fail
          refine (dec_digit (m % 10) _ (by omega) (by omega)).mono ?_
          rintro e w2 ⟨rfl, hg2⟩
          go_wp2_with fail
          go_ret
          exact ⟨ret_str (by rw [hu.out]; simp), hg1.then hg2⟩

theorem decimal_any (n : Int) (w : World) (hn : InI n) :
    Calls Tryd.prog 39 #[.int .i64 n] w fun e w' => e = .returned (.string ⟨(itoa n).toArray⟩) ∧ Grows w w' := decimal_k n.natAbs n w (Nat.le_refl _) hn

set_option maxHeartbeats 400000 in
theorem rint_any (n : Int) (w : World) (hn : InI n) :
    Calls Tryd.prog 13 #[.int .i64 n] w fun e w' => e = .returned (.string ⟨(encI n).toArray⟩) ∧ Grows w w' := by
  have hl := itoa_length hn
  go_enter Tryd.func13, Tryd.ntmps13
  go_wp2_with fail
  refine (decimal_any n _ hn).mono ?_
  rintro e w1 ⟨rfl, hg⟩
  go_wp2_with fail
  go_ret
  exact ⟨ret_str (by simp [encI]), hg⟩

set_option maxHeartbeats 400000 in
theorem rtext_any (s : ByteArray) (w : World) (hs : s.size ≤ 4611686018427387904) :
    Calls Tryd.prog 15 #[.string s] w fun e w' => e = .returned (.string ⟨(encT s.data.toList).toArray⟩) ∧ Grows w w' := by
  have hn : InI (s.size : Int) := ⟨by omega, by omega⟩
  have hl := itoa_length hn
  go_enter Tryd.func15, Tryd.ntmps15
  go_wp2_with fail
  refine (decimal_any _ _ hn).mono ?_
  rintro e w1 ⟨rfl, hg⟩
  go_wp2_with fail
  go_ret
  exact ⟨ret_str (by simp [encT]), hg⟩

end Go.Proofs.YtjiljkiedidmeaaDoor
