/- The two lists of wire's reference. -/
import Derived.Test.YtjiljkiedidmeaaDoorLists
namespace Go.Proofs.YtjiljkiedidmeaaDoor
open Go.RowKit Go.Lib

theorem str_app (a b : List UInt8) : Value.string (⟨a.toArray⟩ ++ ⟨b.toArray⟩) = .string ⟨(a ++ b).toArray⟩ := by
  have : (⟨a.toArray⟩ ++ ⟨b.toArray⟩ : ByteArray) = ⟨(a ++ b).toArray⟩ := by
    apply ByteArray.ext; simp
  rw [this]

set_option maxHeartbeats 1000000 in
theorem rints_any (v : Value) (l : List Int) (w : World) (hv : Row w v (ints l)) (hl : ∀ n ∈ l, InI n) (hb : (l.flatMap encI).length + 2 ≤ 140737488355328) :
    Calls Tryd.prog 17 #[v] w fun e w' => e = .returned (.string ⟨(encL encI l).toArray⟩) ∧ Grows w w' := by
  obtain ⟨a, cap, rfl, hc1, hc2, hrow⟩ := hv
  rw [ints_length] at hc1
  rw [ints_length]
  have b0 : Grows w w := Below.refl _ _
  go_enter Tryd.func17, Tryd.ntmps17
  go_wp2_with fail
  go_loopw [3, 4] (fun s i wr => ∃ k : Nat, k ≤ l.length ∧ i = .int .i64 k ∧ s = .string ⟨(91 :: (l.take k).flatMap encI).toArray⟩ ∧ Grows w wr) (fun _ i _ => l.length - (RowKit.intOf i).toNat)
  case atStart => exact ⟨0, Nat.zero_le _, rfl, rfl, b0⟩
  case round =>
    clear b0
    obtain ⟨k, hk, rfl, rfl, b1⟩ := hrel
    have hbk := bytes_bound encI l k
    have hs1 := b1.size
    by_cases hlt : k < l.length
    · rcases hrow with h0 | ⟨b, o, rfl, hcell⟩
      · rw [show l = [] from List.map_eq_nil_iff.1 h0] at hlt
        simp at hlt
      · have hcell0 := hcell k (.int .i64 l[k]) (by unfold ints; rw [List.getElem?_map, List.getElem?_eq_getElem hlt]; rfl)
        have hcell1 : wr.cell? ⟨b, o + k, none⟩ = some (.int .i64 l[k]) := (b1.cell (World.block_lt_of_cell? w _ hcell0)).trans hcell0
        have hlk := hl l[k] (List.getElem_mem hlt)
        have htn := Lib.hid (take_next encI l k hlt)
        have hbn := bytes_bound encI l (k + 1)
        rw [htn.out, List.length_append] at hbn
        clear hcell hcell0
        generalize l[k] = n at *
        generalize hT : (l.take k).flatMap encI = T at *
        clear hT
        go_wp2_with fail
        refine (rint_any n _ hlk).mono ?_
        rintro e w2 ⟨rfl, g2⟩
        clear hcell1
        have b2 := b1.then g2
        go_wp2_with fail
        go_roundw
        case rel => exact ⟨k + 1, by omega, by go_num, by rw [htn.out]; exact str_app (91 :: T) _, b2⟩
        case measure => simp [RowKit.intOf]; omega
    · obtain rfl : k = l.length := by omega
      rw [List.take_length] at hbk ⊢
      generalize hT : l.flatMap encI = T at *
      have HT := Lib.hid hT
      clear hT
      go_wp2_with fail
      go_ret
      exact ⟨ret_str (by simp [encL, HT.out]), b1⟩

set_option maxHeartbeats 1000000 in
theorem rtexts_any (v : Value) (l : List (List UInt8)) (w : World) (hv : Row w v (strs l)) (hb : (l.flatMap encT).length + 2 ≤ 140737488355328) :
    Calls Tryd.prog 19 #[v] w fun e w' => e = .returned (.string ⟨(encL encT l).toArray⟩) ∧ Grows w w' := by
  obtain ⟨a, cap, rfl, hc1, hc2, hrow⟩ := hv
  rw [strs_length] at hc1
  rw [strs_length]
  have b0 : Grows w w := Below.refl _ _
  go_enter Tryd.func19, Tryd.ntmps19
  go_wp2_with fail
  go_loopw [3, 4] (fun s i wr => ∃ k : Nat, k ≤ l.length ∧ i = .int .i64 k ∧ s = .string ⟨(91 :: (l.take k).flatMap encT).toArray⟩ ∧ Grows w wr) (fun _ i _ => l.length - (RowKit.intOf i).toNat)
  case atStart => exact ⟨0, Nat.zero_le _, rfl, rfl, b0⟩
  case round =>
    clear b0
    obtain ⟨k, hk, rfl, rfl, b1⟩ := hrel
    have hbk := bytes_bound encT l k
    have hs1 := b1.size
    by_cases hlt : k < l.length
    · rcases hrow with h0 | ⟨b, o, rfl, hcell⟩
      · rw [show l = [] from List.map_eq_nil_iff.1 h0] at hlt
        simp at hlt
      · have hcell0 := hcell k (str l[k]) (by unfold strs; rw [List.getElem?_map, List.getElem?_eq_getElem hlt]; rfl)
        have hcell1 : wr.cell? ⟨b, o + k, none⟩ = some (str l[k]) := (b1.cell (World.block_lt_of_cell? w _ hcell0)).trans hcell0
        skip
        have htn := Lib.hid (take_next encT l k hlt)
        have hbn := bytes_bound encT l (k + 1)
        rw [htn.out, List.length_append] at hbn
        clear hcell hcell0
        generalize l[k] = n at *
        generalize hT : (l.take k).flatMap encT = T at *
        clear hT
        unfold str at hcell1
        have hnl : n.length ≤ (encT n).length := by unfold encT; simp; omega
        go_wp2_with fail
        refine (rtext_any ⟨n.toArray⟩ _ (by rw [size_of_list]; omega)).mono ?_
        rintro e w2 ⟨rfl, g2⟩
        clear hcell1
        have b2 := b1.then g2
        go_wp2_with fail
        go_roundw
        case rel => exact ⟨k + 1, by omega, by go_num, by rw [htn.out]; exact str_app (91 :: T) _, b2⟩
        case measure => simp [RowKit.intOf]; omega
    · obtain rfl : k = l.length := by omega
      rw [List.take_length] at hbk ⊢
      generalize hT : l.flatMap encT = T at *
      have HT := Lib.hid hT
      clear hT
      go_wp2_with fail
      go_ret
      exact ⟨ret_str (by simp [encL, HT.out]), b1⟩

end Go.Proofs.YtjiljkiedidmeaaDoor
