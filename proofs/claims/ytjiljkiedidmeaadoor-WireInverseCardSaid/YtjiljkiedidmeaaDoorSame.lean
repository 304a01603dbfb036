/- The reference's comparison of lists. -/
import Derived.Test.YtjiljkiedidmeaaDoorRElems
namespace Go.Proofs.YtjiljkiedidmeaaDoor
open Go.RowKit Go.Lib

set_option maxRecDepth 100000 in
set_option maxHeartbeats 1000000 in
theorem same_ints (va vb : Value) (l m : List Int) (w : World) (ha : Row w va (ints l)) (hb : Row w vb (ints m)) (t : Bool) (ht : decide (l = m) = t) :
    Calls Tryd.prog 26 #[va, vb] w fun e w' => e = .returned (.bool t) ∧ Grows w w' := by
  obtain ⟨a, ca, rfl, hca1, hca2, hra⟩ := ha
  obtain ⟨b, cb, rfl, hcb1, hcb2, hrb⟩ := hb
  rw [ints_length] at hca1 hcb1
  rw [ints_length, ints_length]
  have HT := Lib.hid ht
  clear ht
  by_cases hlen : l.length = m.length
  · have hne : ((l.length : Int) != (m.length : Int)) = false := by rw [hlen]; simp
    have HL := Lib.hid hlen
    have hl1 : l.length ≤ m.length := by omega
    have hl2 : m.length ≤ l.length := by omega
    have b0 : Grows w w := Below.refl _ _
    clear hlen
    go_enter Tryd.func26, Tryd.ntmps26
    go_wp2_with fail
    clear hne
    go_loopw [5] (fun x wr => ∃ k : Nat, k ≤ l.length ∧ Hid (l.take k = m.take k) ∧ x = .int .i64 k ∧ Grows w wr) (fun x _ => l.length - (RowKit.intOf x).toNat)
    case atStart => exact ⟨0, Nat.zero_le _, rfl, rfl, b0⟩
    case round =>
      clear b0
      obtain ⟨k, hk, HK, rfl, b1⟩ := hrel
      by_cases hlt : k < l.length
      · have hlt2 : k < m.length := by omega
        rcases hra with h0 | ⟨a1, o1, rfl, hcell1⟩
        · rw [show l = [] from List.map_eq_nil_iff.1 h0] at hlt
          simp at hlt
        · rcases hrb with h0 | ⟨b2, o2, rfl, hcell2⟩
          · rw [show m = [] from List.map_eq_nil_iff.1 h0] at hlt2
            simp at hlt2
          · have e1 := hcell1 k (.int .i64 l[k]) (by unfold ints; rw [List.getElem?_map, List.getElem?_eq_getElem hlt]; rfl)
            have e2 := hcell2 k (.int .i64 m[k]) (by unfold ints; rw [List.getElem?_map, List.getElem?_eq_getElem hlt2]; rfl)
            have c1 : wr.cell? ⟨a1, o1 + k, none⟩ = some (.int .i64 l[k]) := (b1.cell (World.block_lt_of_cell? w _ e1)).trans e1
            have c2 : wr.cell? ⟨b2, o2 + k, none⟩ = some (.int .i64 m[k]) := (b1.cell (World.block_lt_of_cell? w _ e2)).trans e2
            have hs1 := List.take_succ_eq_append_getElem hlt
            have hs2 := List.take_succ_eq_append_getElem hlt2
            have hg1 := List.getElem?_eq_getElem hlt
            have hg2 := List.getElem?_eq_getElem hlt2
            have HS1 := Lib.hid hs1
            have HS2 := Lib.hid hs2
            have HG1 := Lib.hid hg1
            have HG2 := Lib.hid hg2
            clear e1 e2 hcell1 hcell2 hs1 hs2 hg1 hg2
            generalize l[k] = x at *
            generalize m[k] = y at *
            skip
            have i0 : (0 : Int) ≤ (k : Int) := by omega
            have i1 : (k : Int) < (l.length : Int) := by omega
            have i2 : (k : Int) < (m.length : Int) := by omega
            by_cases hxy : x = y
            · have HXY := Lib.hid hxy
              have hb : (x != y) = false := by rw [hxy]; simp
              clear hxy
              go_wp2_with fail
              go_quiet (fail)
              have b2 := b1.then (grows_drewN wr nq)
              clear hb c1 c2
              go_wp2_with fail
              go_roundw
              case rel => exact ⟨k + 1, by omega, by show _ = _; rw [HS1.out, HS2.out, HK.out, HXY.out], by go_num, b2⟩
              case measure => simp [RowKit.intOf]; omega
            · have hb : (x != y) = true := by rw [bne_iff_ne]; exact hxy
              have hf : t = false := by
                rw [← HT.out, decide_eq_false_iff_not]
                intro e
                have h1 := HG1.out
                rw [e, HG2.out] at h1
                simp only [Option.some.injEq] at h1
                exact hxy h1.symm
              subst hf
              clear hxy HT
              go_wp2_with fail
              go_quiet (fail)
              go_wp2_with fail
              go_ret
              exact ⟨rfl, b1.then (grows_drewN wr nq)⟩
      · obtain rfl : k = l.length := by omega
        have hf : t = true := by
          rw [← HT.out, decide_eq_true_iff]
          have h1 := HK.out
          rw [List.take_length, HL.out, List.take_length] at h1
          exact h1
        subst hf
        clear HT
        go_wp2_with fail
        go_ret
        exact ⟨rfl, b1⟩
  · have hne : ((l.length : Int) != (m.length : Int)) = true := by rw [bne_iff_ne]; omega
    have hf : t = false := by
      rw [← HT.out, decide_eq_false_iff_not]
      intro e
      exact hlen (by rw [e])
    subst hf
    clear hlen HT
    go_enter Tryd.func26, Tryd.ntmps26
    go_wp2_with fail
    go_ret
    exact ⟨rfl, Below.refl _ _⟩

set_option maxRecDepth 100000 in
set_option maxHeartbeats 1000000 in
theorem same_strs (va vb : Value) (l m : List (List UInt8)) (w : World) (ha : Row w va (strs l)) (hb : Row w vb (strs m)) (t : Bool) (ht : decide (l = m) = t) :
    Calls Tryd.prog 29 #[va, vb] w fun e w' => e = .returned (.bool t) ∧ Grows w w' := by
  obtain ⟨a, ca, rfl, hca1, hca2, hra⟩ := ha
  obtain ⟨b, cb, rfl, hcb1, hcb2, hrb⟩ := hb
  rw [strs_length] at hca1 hcb1
  rw [strs_length, strs_length]
  have HT := Lib.hid ht
  clear ht
  by_cases hlen : l.length = m.length
  · have hne : ((l.length : Int) != (m.length : Int)) = false := by rw [hlen]; simp
    have HL := Lib.hid hlen
    have hl1 : l.length ≤ m.length := by omega
    have hl2 : m.length ≤ l.length := by omega
    have b0 : Grows w w := Below.refl _ _
    clear hlen
    go_enter Tryd.func29, Tryd.ntmps29
    go_wp2_with fail
    clear hne
    go_loopw [5] (fun x wr => ∃ k : Nat, k ≤ l.length ∧ Hid (l.take k = m.take k) ∧ x = .int .i64 k ∧ Grows w wr) (fun x _ => l.length - (RowKit.intOf x).toNat)
    case atStart => exact ⟨0, Nat.zero_le _, rfl, rfl, b0⟩
    case round =>
      clear b0
      obtain ⟨k, hk, HK, rfl, b1⟩ := hrel
      by_cases hlt : k < l.length
      · have hlt2 : k < m.length := by omega
        rcases hra with h0 | ⟨a1, o1, rfl, hcell1⟩
        · rw [show l = [] from List.map_eq_nil_iff.1 h0] at hlt
          simp at hlt
        · rcases hrb with h0 | ⟨b2, o2, rfl, hcell2⟩
          · rw [show m = [] from List.map_eq_nil_iff.1 h0] at hlt2
            simp at hlt2
          · have e1 := hcell1 k (str l[k]) (by unfold strs; rw [List.getElem?_map, List.getElem?_eq_getElem hlt]; rfl)
            have e2 := hcell2 k (str m[k]) (by unfold strs; rw [List.getElem?_map, List.getElem?_eq_getElem hlt2]; rfl)
            have c1 : wr.cell? ⟨a1, o1 + k, none⟩ = some (str l[k]) := (b1.cell (World.block_lt_of_cell? w _ e1)).trans e1
            have c2 : wr.cell? ⟨b2, o2 + k, none⟩ = some (str m[k]) := (b1.cell (World.block_lt_of_cell? w _ e2)).trans e2
            have hs1 := List.take_succ_eq_append_getElem hlt
            have hs2 := List.take_succ_eq_append_getElem hlt2
            have hg1 := List.getElem?_eq_getElem hlt
            have hg2 := List.getElem?_eq_getElem hlt2
            have HS1 := Lib.hid hs1
            have HS2 := Lib.hid hs2
            have HG1 := Lib.hid hg1
            have HG2 := Lib.hid hg2
            clear e1 e2 hcell1 hcell2 hs1 hs2 hg1 hg2
            generalize l[k] = x at *
            generalize m[k] = y at *
            unfold str at c1 c2
            have i0 : (0 : Int) ≤ (k : Int) := by omega
            have i1 : (k : Int) < (l.length : Int) := by omega
            have i2 : (k : Int) < (m.length : Int) := by omega
            by_cases hxy : x = y
            · have HXY := Lib.hid hxy
              have hb : (x == y) = true := by rw [hxy]; simp
              clear hxy
              go_wp2_with fail
              go_quiet (fail)
              have b2 := b1.then (grows_drewN wr nq)
              clear hb c1 c2
              go_wp2_with fail
              go_roundw
              case rel => exact ⟨k + 1, by omega, by show _ = _; rw [HS1.out, HS2.out, HK.out, HXY.out], by go_num, b2⟩
              case measure => simp [RowKit.intOf]; omega
            · have hb : (x == y) = false := by rw [beq_eq_false_iff_ne]; exact hxy
              have hf : t = false := by
                rw [← HT.out, decide_eq_false_iff_not]
                intro e
                have h1 := HG1.out
                rw [e, HG2.out] at h1
                simp only [Option.some.injEq] at h1
                exact hxy h1.symm
              subst hf
              clear hxy HT
              go_wp2_with fail
              go_quiet (fail)
              go_wp2_with fail
              go_ret
              exact ⟨rfl, b1.then (grows_drewN wr nq)⟩
      · obtain rfl : k = l.length := by omega
        have hf : t = true := by
          rw [← HT.out, decide_eq_true_iff]
          have h1 := HK.out
          rw [List.take_length, HL.out, List.take_length] at h1
          exact h1
        subst hf
        clear HT
        go_wp2_with fail
        go_ret
        exact ⟨rfl, b1⟩
  · have hne : ((l.length : Int) != (m.length : Int)) = true := by rw [bne_iff_ne]; omega
    have hf : t = false := by
      rw [← HT.out, decide_eq_false_iff_not]
      intro e
      exact hlen (by rw [e])
    subst hf
    clear hlen HT
    go_enter Tryd.func29, Tryd.ntmps29
    go_wp2_with fail
    go_ret
    exact ⟨rfl, Below.refl _ _⟩

end Go.Proofs.YtjiljkiedidmeaaDoor
