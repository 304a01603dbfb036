/- The digest of several strings, one after the other, and what is computed by it. -/
import Derived.Test.YtmgkbkpfhpkbcaaBase
namespace Go.Proofs.Ytmgkbkpfhpkbcaa
open Go.RowKit Go.Lib

theorem u64v {a b : Int} (h : a = b) : Value.int .u64 a = Value.int .u64 b := by rw [h]
theorem i64v {a b : Int} (h : a = b) : Value.int .i64 a = Value.int .i64 b := by rw [h]
theorem step_x (X : Nat) (c : UInt8) (h : X < 2147483647) : (IntKind.u64.wrap (IntKind.u64.wrap (48271 * (X : Int) + IntKind.u64.wrap (c.toNat : Int)) + 1)).tmod 2147483647 = ((stepX X c : Nat) : Int) := by
  have hc := c.toNat_lt
  simp only [IntKind.wrap_u64]
  unfold stepX
  rw [Int.emod_eq_of_lt (a := (c.toNat : Int)) (by omega) (by omega), Int.emod_eq_of_lt (a := 48271 * (X : Int) + (c.toNat : Int)) (by omega) (by omega), Int.emod_eq_of_lt (by omega) (by omega), Int.tmod_eq_emod_of_nonneg (by omega)]
  omega
theorem step_y (X : Nat) (c : UInt8) (h : X < 2147483629) : (IntKind.u64.wrap (IntKind.u64.wrap (40692 * (X : Int) + IntKind.u64.wrap (c.toNat : Int)) + 1)).tmod 2147483629 = ((stepY X c : Nat) : Int) := by
  have hc := c.toNat_lt
  simp only [IntKind.wrap_u64]
  unfold stepY
  rw [Int.emod_eq_of_lt (a := (c.toNat : Int)) (by omega) (by omega), Int.emod_eq_of_lt (a := 40692 * (X : Int) + (c.toNat : Int)) (by omega) (by omega), Int.emod_eq_of_lt (by omega) (by omega), Int.tmod_eq_emod_of_nonneg (by omega)]
  omega
theorem ba_append (a b : List UInt8) : (⟨a.toArray⟩ ++ ⟨b.toArray⟩ : ByteArray) = ⟨(a ++ b).toArray⟩ := by
  apply ByteArray.ext
  rw [ByteArray.data_append]
  simp
theorem take_snoc {α : Type} (s : List α) (k : Nat) (h : k < s.length) : s.take (k + 1) = s.take k ++ [s[k]] := List.take_succ_eq_append_getElem h
theorem flat_snoc (l : List (List UInt8)) (k : Nat) (h : k < l.length) : (l.take (k + 1)).flatten = (l.take k).flatten ++ l[k] := by
  rw [take_snoc l k h, List.flatten_append]; simp
theorem dx_take (p s : List UInt8) (j : Nat) (h : j < s.length) : dx (p ++ s.take (j + 1)) = stepX (dx (p ++ s.take j)) s[j] := by
  rw [take_snoc s j h, ← List.append_assoc, dx_snoc]
theorem dy_take (p s : List UInt8) (j : Nat) (h : j < s.length) : dy (p ++ s.take (j + 1)) = stepY (dy (p ++ s.take j)) s[j] := by
  rw [take_snoc s j h, ← List.append_assoc, dy_snoc]

attribute [local go_sem] arr8
set_option maxHeartbeats 1000000 in
theorem of_any (v : Value) (l : List (List UInt8)) (w : World) (hv : Row w v (strs l)) (hl : ∀ s ∈ l, (s.length : Int) ≤ 9223372036854775807) :
    Calls Try.prog 31 #[v] w fun e w' => e = .returned (agg8 (dig l.flatten)) ∧ Grows w w' := by
  obtain ⟨a, cap, rfl, hc1, hc2, hrow⟩ := hv
  rw [strs_length] at hc1
  rw [strs_length]
  go_enter Try.func31, Try.ntmps31
  go_wp2_with fail
  go_loop [3, 4, 11] (fun x y i => ∃ k : Nat, k ≤ l.length ∧ i = .int .i64 k ∧ x = .int .u64 (dx (l.take k).flatten : Nat) ∧ y = .int .u64 (dy (l.take k).flatten : Nat)) (fun _ _ i => l.length - (RowKit.intOf i).toNat)
  case atStart => exact ⟨0, Nat.zero_le _, rfl, rfl, rfl⟩
  case round =>
    obtain ⟨k, hk, rfl, rfl, rfl⟩ := hrel
    by_cases hlt : k < l.length
    · rcases hrow with h0 | ⟨b, o, rfl, hcell⟩
      · rw [show l = [] from List.map_eq_nil_iff.1 h0] at hlt
        simp at hlt
      · have hcell0 := hcell k (str l[k]) (by unfold strs; rw [List.getElem?_map, List.getElem?_eq_getElem hlt]; rfl)
        have hcell1 : (w.alloc zero8).cell? ⟨b, o + k, none⟩ = some (str l[k]) := by
          rw [World.cell?_alloc_lt _ _ _ (World.block_lt_of_cell? w _ hcell0)]; exact hcell0
        have hln := hl l[k] (List.getElem_mem hlt)
        have HF := Lib.hid (flat_snoc l k hlt)
        clear hcell hcell0 hl
        unfold str at hcell1
        generalize l[k] = s at *
        generalize (l.take k).flatten = p at *
        go_wp2_with fail
        go_loop [3, 4, 17] (fun x y i => ∃ j : Nat, j ≤ s.length ∧ i = .int .i64 j ∧ x = .int .u64 (dx (p ++ s.take j) : Nat) ∧ y = .int .u64 (dy (p ++ s.take j) : Nat)) (fun _ _ i => s.length - (RowKit.intOf i).toNat)
        case atStart => exact ⟨0, Nat.zero_le _, rfl, by simp, by simp⟩
        case round =>
          obtain ⟨j, hj, rfl, rfl, rfl⟩ := hrel
          have bx := dx_lt (p ++ s.take j)
          have by' := dy_lt (p ++ s.take j)
          by_cases hlt2 : j < s.length
          · have HX := Lib.hid (dx_take p s j hlt2)
            have HY := Lib.hid (dy_take p s j hlt2)
            generalize dx (p ++ s.take j) = X at *
            generalize dy (p ++ s.take j) = Y at *
            go_wp2_with fail
            go_round
            case rel => exact ⟨j + 1, by omega, by go_num, u64v ((step_x X s[j] bx).trans (by rw [HX.out])), u64v ((step_y Y s[j] by').trans (by rw [HY.out]))⟩
            case measure => simp [RowKit.intOf]; omega
          · obtain rfl : j = s.length := by omega
            rw [List.take_length] at *
            go_wp2_with fail
            go_round
            case rel => exact ⟨k + 1, by omega, by go_num, by rw [HF.out], by rw [HF.out]⟩
            case measure => simp [RowKit.intOf]; omega
    · obtain rfl : k = l.length := by omega
      have HX := Lib.hid (show dx (l.take l.length).flatten = dx l.flatten by rw [List.take_length])
      rw [List.take_length]
      clear hrow hl hlt
      have hx := dx_lt l.flatten
      have hy := dy_lt l.flatten
      have hd := Lib.hid (show dig l.flatten = word (dx l.flatten) ++ word (dy l.flatten) from rfl)
      have hs := Lib.hid (dig_length l.flatten)
      rw [hd.out] at hs
      have HB := Lib.hid (bytes8 _ hs.out)
      generalize dx l.flatten = X at *
      generalize dy l.flatten = Y at *
      go_wp2_with fail
      refine (word_any X _ (by omega)).mono ?_
      rintro e w1 ⟨rfl, g1⟩
      go_wp2_with fail
      refine (word_any Y _ (by omega)).mono ?_
      rintro e w2 ⟨rfl, g2⟩
      unfold str
      go_wp2_with fail
      rw [ba_append]
      have t2 := there_later (there_later (there_zero w) g1 (by simp)) g2 (by have := g1.size; simp at this; omega)
      have b2 : Grows w w2 := (Grows.then ((Below.refl _ _).alloc (Nat.le_refl _) _) g1).then g2
      have s1 := g1.size
      have s2 := g2.size
      obtain ⟨w3, cap, e3, g3, r3⟩ := HB.out w2
      rw [e3]
      have t3 := there_later t2 g3 (by simp at s1; omega)
      have b3 := b2.then g3
      clear e3 t2 b2 g1 g2 g3
      simp only [Result.andThen]
      rw [Oper.upon_value]
      generalize hD : word X ++ word Y = D at *
      go_wp2_with (first | (refine load8 rfl _ rfl rfl hs r3 ?_) | (refine store8 rfl _ _ rfl rfl rfl hs t3 ?_))
      exact bodyPost_ret (results8 rfl rfl hs (range_set hs t3)) rfl ⟨by rw [hd.out], grows_set b3 (Nat.le_refl _)⟩

end Go.Proofs.Ytmgkbkpfhpkbcaa
