/- The way up a tree: the reference's, and digest.Verify. -/
import Derived.Test.YtmgkbkpfhpkbcaaList
import Derived.Test.YtmgkbkpfhpkbcaaTree
namespace Go.Proofs.Ytmgkbkpfhpkbcaa
open Go.RowKit Go.Lib

attribute [local go_sem] str

/-- Whether a way is permitted. -/
def fit (i : Int) (p : List (List UInt8)) : Bool := decide (0 ≤ i ∧ p.length ≤ 40 ∧ i < 2 ^ p.length ∧ (∀ s ∈ p, s.length = 8))
/-- What the reference's way up answers. -/
def rupV (d : List UInt8) (i : Int) (p : List (List UInt8)) : Value := if fit i p = true then .tuple #[str (upOf d i.toNat p), .bool true] else .tuple #[str [], .bool false]
theorem rupV_yes {d : List UInt8} {i : Int} {p : List (List UInt8)} (h : fit i p = true) : rupV d i p = .tuple #[str (upOf d i.toNat p), .bool true] := if_pos h
theorem rupV_no {d : List UInt8} {i : Int} {p : List (List UInt8)} (h : fit i p = false) : rupV d i p = .tuple #[str [], .bool false] := if_neg (by rw [h]; decide)

theorem pow40 {n : Nat} (h : n ≤ 40) : 2 ^ n ≤ 1099511627776 := Nat.le_trans (Nat.pow_le_pow_right (by decide) h) (by decide)
theorem ret_v {a b : Value} (h : a = b) : Ending.returned a = .returned b := by rw [h]

theorem half (I : Nat) (h : I ≤ 1099511627776) : wrap64 ((I : Int) / 2) = ((I / 2 : Nat) : Int) := by
  rw [IntWalk.wrap64_in _ ⟨by omega, by omega⟩]; rfl

set_option maxHeartbeats 1000000 in
theorem rup_loop (d : List UInt8) (i : Nat) (v : Value) (p : List (List UInt8)) (w : World) (hd : d.length = 8) (hv : Row w v (strs p)) (h40 : p.length ≤ 40) (hi : i < 2 ^ p.length) :
    Calls Try.prog 29 #[str d, .int .i64 (i : Int), v] w fun e w' => e = .returned (rupV d i p) ∧ Grows w w' := by
  obtain ⟨a, cap, rfl, hc1, hc2, hrow⟩ := hv
  rw [strs_length] at hc1
  rw [strs_length]
  have g0 : Grows w w := Below.refl _ _
  have hp := pow40 h40
  have n1 : ¬ (i : Int) < 0 := by omega
  have hI : (i : Int) < 2 ^ p.length := by exact_mod_cast hi
  have hw : wrap64 ((2 : Int) ^ p.length) = 2 ^ p.length := IntWalk.wrap64_in _ (by
    have : ((2 : Int) ^ p.length) ≤ 1099511627776 := by have h := Int.ofNat_le.2 hp; rw [Int.natCast_pow] at h; exact h
    have : (0 : Int) < 2 ^ p.length := Int.pow_pos (by decide)
    exact ⟨by omega, by omega⟩)
  have hX : (i : Int) < wrap64 ((2 : Int) ^ p.length) := by rw [hw]; exact hI
  have h40i : (p.length : Int) ≤ 40 := by omega
  have hd8 := Lib.hid hd
  have hF : Hid ((∀ s ∈ p, s.length = 8) → fit i p = true) := Lib.hid (fun h => decide_eq_true ⟨by omega, h40, hI, h⟩)
  have hN : Hid (∀ s ∈ p, s.length ≠ 8 → fit i p = false) := Lib.hid (fun s hs h => decide_eq_false (fun hh => h (hh.2.2.2 s hs)))
  have hiB := Lib.hid (show i ≤ 1099511627776 by omega)
  clear hd hI hw hp hi
  go_enter Try.func29, Try.ntmps29
  go_wp2_with fail
  clear hX
  go_loopw [0, 1, 8] (fun x j c wr => ∃ k : Nat, k ≤ p.length ∧ c = .int .i64 k ∧ j = .int .i64 (i / 2 ^ k : Nat) ∧ x = .string ⟨(upOf d i (p.take k)).toArray⟩ ∧ (∀ s ∈ p.take k, s.length = 8) ∧ Grows w wr) (fun _ _ c _ => p.length - (RowKit.intOf c).toNat)
  case atStart => exact ⟨0, Nat.zero_le _, rfl, by simp, rfl, by simp, g0⟩
  case round =>
    clear g0
    obtain ⟨k, hk, rfl, rfl, rfl, hal, g⟩ := hrel
    have HA := Lib.hid hal
    clear hal
    by_cases hlt : k < p.length
    · rcases hrow with h0 | ⟨b, o, rfl, hcell⟩
      · rw [show p = [] from List.map_eq_nil_iff.1 h0] at hlt
        simp at hlt
      · have hcell0 := hcell k (str p[k]) (by unfold strs; rw [List.getElem?_map, List.getElem?_eq_getElem hlt]; rfl)
        have hcell1 : wr.cell? ⟨b, o + k, none⟩ = some (str p[k]) := (g.cell (World.block_lt_of_cell? w _ hcell0)).trans hcell0
        have HS := Lib.hid (upOf_snoc d i (p.take k) p[k])
        rw [List.length_take_of_le hk, ← take_snoc p k hlt] at HS
        have HT := Lib.hid (take_snoc p k hlt)
        have HD := Lib.hid (div_succ i k)
        have HIb := Lib.hid (show i / 2 ^ k ≤ 1099511627776 from Nat.le_trans (Nat.div_le_self _ _) hiB.out)
        have hmem := Lib.hid (List.getElem_mem hlt)
        have hul := upOf_length i (p.take k) hd8.out
        have hu8 : (upOf d i (p.take k)).length ≤ 8 := by omega
        clear hcell hcell0 hul
        generalize p[k] = s at *
        generalize upOf d i (p.take k) = u at *
        generalize i / 2 ^ k = I at *
        unfold str at hcell1
        by_cases hs : s.length = 8
        · have hs1 : ((s.length : Int) != 8) = false := by simp [hs]
          have hs8 : s.length ≤ 8 := by omega
          have hsl := Lib.hid hs
          clear hs
          have hsn : (u ++ s).length ≤ 16 := by simp; omega
          have hsn2 : (s ++ u).length ≤ 16 := by simp; omega
          have hK1 : Hid (I % 2 = 0 → upOf d i (p.take (k + 1)) = dig (4 :: (u ++ s))) := Lib.hid (fun h => by rw [HS.out, if_pos h])
          have hK2 : Hid (¬ I % 2 = 0 → upOf d i (p.take (k + 1)) = dig (4 :: (s ++ u))) := Lib.hid (fun h => by rw [HS.out, if_neg h])
          have hAl : Hid (∀ x ∈ p.take (k + 1), x.length = 8) := Lib.hid (by
            rw [HT.out]; intro x hx
            rcases List.mem_append.1 hx with h | h
            · exact HA.out x h
            · rw [List.mem_singleton.1 h]; exact hsl.out)
          have B1 := Lib.hid (show ((⟨#[4]⟩ ++ ⟨u.toArray⟩ : ByteArray) ++ ⟨s.toArray⟩ : ByteArray) = ⟨(4 :: (u ++ s)).toArray⟩ by
            rw [show (⟨#[4]⟩ : ByteArray) = ⟨[4].toArray⟩ from rfl, ba_append, ba_append]; simp)
          have B2 := Lib.hid (show ((⟨#[4]⟩ ++ ⟨s.toArray⟩ : ByteArray) ++ ⟨u.toArray⟩ : ByteArray) = ⟨(4 :: (s ++ u)).toArray⟩ by
            rw [show (⟨#[4]⟩ : ByteArray) = ⟨[4].toArray⟩ from rfl, ba_append, ba_append]; simp)
          clear HS HT HA
          by_cases hev : I % 2 = 0
          · have he : ((I : Int) % 2 == 0) = true := by simp; omega
            have hq := Lib.hid (hK1.out hev)
            clear hev hK1 hK2
            go_wp2_with fail
            rw [B1.out]
            refine (rof_any _ _ (by simp; omega)).mono ?_
            rintro e w1 ⟨rfl, g1⟩
            rw [← hq.out]
            have g2 := g.then g1
            clear g g1 hcell1 B1 B2
            go_wp2_with fail
            go_roundw
            case rel => exact ⟨k + 1, by omega, by go_num, i64v ((half I HIb.out).trans (by rw [HD.out])), rfl, hAl.out, g2⟩
            case measure => simp [RowKit.intOf]; omega
          · have he : ((I : Int) % 2 == 0) = false := by simp; omega
            have hq := Lib.hid (hK2.out hev)
            clear hev hK1 hK2
            go_wp2_with fail
            rw [B2.out]
            refine (rof_any _ _ (by simp; omega)).mono ?_
            rintro e w1 ⟨rfl, g1⟩
            rw [← hq.out]
            have g2 := g.then g1
            clear g g1 hcell1 B1 B2
            go_wp2_with fail
            go_roundw
            case rel => exact ⟨k + 1, by omega, by go_num, i64v ((half I HIb.out).trans (by rw [HD.out])), rfl, hAl.out, g2⟩
            case measure => simp [RowKit.intOf]; omega
        · have hs1 : ((s.length : Int) != 8) = true := by simp; omega
          have hn := Lib.hid (rupV_no (d := d) (hN.out s hmem.out hs))
          clear hs
          go_wp2_with fail
          go_ret2
          exact ⟨ret_v hn.out.symm, g⟩
    · obtain rfl : k = p.length := by omega
      have hy := Lib.hid (rupV_yes (d := d) (hF.out (by have := HA.out; rwa [List.take_length] at this)))
      rw [List.take_length] at *
      go_wp2_with fail
      go_ret2
      exact ⟨ret_v hy.out.symm, g⟩

set_option maxHeartbeats 1000000 in
theorem rup_no (d : List UInt8) (i : Int) (v : Value) (p : List (List UInt8)) (w : World) (hv : Row w v (strs p)) (h : i < 0 ∨ ¬ p.length ≤ 40 ∨ ¬ i < 2 ^ p.length) :
    Calls Try.prog 29 #[str d, .int .i64 i, v] w fun e w' => e = .returned (.tuple #[str [], .bool false]) ∧ Grows w w' := by
  obtain ⟨a, cap, rfl, hc1, hc2, hrow⟩ := hv
  rw [strs_length] at hc1
  rw [strs_length]
  clear hrow
  have g0 : Grows w w := Below.refl _ _
  by_cases h0 : i < 0
  · go_enter Try.func29, Try.ntmps29
    go_wp2_with fail
    go_ret2
    exact ⟨rfl, g0⟩
  · by_cases h40 : p.length ≤ 40
    · have hp := pow40 h40
      have hI : ¬ i < 2 ^ p.length := by
        rcases h with h | h | h
        · exact absurd h h0
        · exact absurd h40 h
        · exact h
      have hw : wrap64 ((2 : Int) ^ p.length) = 2 ^ p.length := IntWalk.wrap64_in _ (by
        have : ((2 : Int) ^ p.length) ≤ 1099511627776 := by have h := Int.ofNat_le.2 hp; rw [Int.natCast_pow] at h; exact h
        have : (0 : Int) < 2 ^ p.length := Int.pow_pos (by decide)
        exact ⟨by omega, by omega⟩)
      have hX : ¬ i < wrap64 ((2 : Int) ^ p.length) := by rw [hw]; exact hI
      have h40i : (p.length : Int) ≤ 40 := by omega
      clear h hI hw hp
      go_enter Try.func29, Try.ntmps29
      go_wp2_with fail
      go_ret2
      exact ⟨rfl, g0⟩
    · have h40i : ¬ (p.length : Int) ≤ 40 := by omega
      clear h
      go_enter Try.func29, Try.ntmps29
      go_wp2_with fail
      go_ret2
      exact ⟨rfl, g0⟩

theorem rup_any (d : List UInt8) (i : Int) (v : Value) (p : List (List UInt8)) (w : World) (hd : d.length = 8) (hv : Row w v (strs p)) :
    Calls Try.prog 29 #[str d, .int .i64 i, v] w fun e w' => e = .returned (rupV d i p) ∧ Grows w w' := by
  by_cases h : i < 0 ∨ ¬ p.length ≤ 40 ∨ ¬ i < 2 ^ p.length
  · rw [rupV_no (decide_eq_false fun hh => by
      rcases h with h | h | h
      · omega
      · exact h hh.2.1
      · exact h hh.2.2.1)]
    exact rup_no d i v p w hv h
  · obtain ⟨n, rfl⟩ := Int.eq_ofNat_of_zero_le (show 0 ≤ i by omega)
    have h1 : p.length ≤ 40 := by
      rcases Nat.lt_or_ge 40 p.length with h2 | h2
      · exact absurd (.inr (.inl (by omega))) h
      · exact h2
    have h2 : ((n : Nat) : Int) < 2 ^ p.length := by
      by_cases h3 : ((n : Nat) : Int) < 2 ^ p.length
      · exact h3
      · exact absurd (.inr (.inr h3)) h
    exact rup_loop d n v p w hd hv h1 (by exact_mod_cast h2)

theorem ver_yes {root lf : List UInt8} {i : Int} {p : List (List UInt8)} (h : fit i p = true) : ver root lf i p = decide (upOf (leaf lf) i.toNat p = root) := by
  have h := of_decide_eq_true h
  unfold ver
  exact decide_eq_decide.2 ⟨fun hh => hh.2.2.2.2, fun hh => ⟨h.1, h.2.1, h.2.2.1, h.2.2.2, hh⟩⟩
theorem ver_no {root lf : List UInt8} {i : Int} {p : List (List UInt8)} (h : fit i p = false) : ver root lf i p = false := by
  have h := of_decide_eq_false h
  unfold ver
  exact decide_eq_false fun hh => h ⟨hh.1, hh.2.1, hh.2.2.1, hh.2.2.2.1⟩

set_option maxHeartbeats 1000000 in
theorem rver_any (root lf : List UInt8) (i : Int) (v : Value) (p : List (List UInt8)) (w : World) (hl : lf.length ≤ 100000) (hv : Row w v (strs p)) :
    Calls Try.prog 28 #[str root, str lf, .int .i64 i, v] w fun e w' => e = .returned (.bool (ver root lf i p)) ∧ Grows w w' := by
  cases hf : fit i p with
  | true =>
    have hy := Lib.hid (rupV_yes (d := leaf lf) hf)
    have hV := Lib.hid (ver_yes (root := root) (lf := lf) hf)
    clear hf
    go_enter Try.func28, Try.ntmps28
    go_wp2_with fail
    refine (rleaf_any lf _ hl).mono ?_
    rintro e w1 ⟨rfl, g1⟩
    go_wp2_with fail
    refine (rup_any (leaf lf) i v p _ (dig_length _) (hv.later g1)).mono ?_
    rintro e w2 ⟨rfl, g2⟩
    rw [hy.out]
    have g2 := g1.then g2
    clear g1
    go_wp2_with fail
    go_ret
    exact ⟨ret_b (by rw [hV.out, ← eq_lists]), g2⟩
  | false =>
    have hy := Lib.hid (rupV_no (d := leaf lf) hf)
    have hV := Lib.hid (ver_no (root := root) (lf := lf) hf)
    clear hf
    go_enter Try.func28, Try.ntmps28
    go_wp2_with fail
    refine (rleaf_any lf _ hl).mono ?_
    rintro e w1 ⟨rfl, g1⟩
    go_wp2_with fail
    refine (rup_any (leaf lf) i v p _ (dig_length _) (hv.later g1)).mono ?_
    rintro e w2 ⟨rfl, g2⟩
    rw [hy.out]
    have g2 := g1.then g2
    clear g1
    go_wp2_with fail
    go_ret
    exact ⟨ret_b hV.out.symm, g2⟩

end Go.Proofs.Ytmgkbkpfhpkbcaa
