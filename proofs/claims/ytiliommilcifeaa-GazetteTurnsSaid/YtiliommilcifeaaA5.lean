/- Fold of the reference, and Less by it. -/
import Derived.Test.YtiliommilcifeaaO
import Derived.Laws.BytesArg
namespace Go.Proofs.Ytiliommilcifeaa
open Go.RowKit Go.Lib Go.Sort

theorem ba_get (s : List UInt8) (k : Nat) (h : k < (⟨s.toArray⟩ : ByteArray).size) : (⟨s.toArray⟩ : ByteArray)[k]'h = s[k]'h := rfl
attribute [local go_sem] ba_get
theorem u8_flat (s : List UInt8) : s.flatMap tU.enc = u8s s := by
  induction s with
  | nil => rfl
  | cons c s ih => rw [List.flatMap_cons, ih]; rfl
set_option maxRecDepth 100000 in
set_option maxHeartbeats 2000000 in
theorem rfold_any (s : List UInt8) (hs : Fits s) (w : World) : Calls Try.prog 16 #[str s] w fun e w' => e = .returned (str (fold s)) ∧ Grows w w' := by
  unfold Fits at hs
  unfold str
  go_enter Try.func16, Try.ntmps16
  go_wp2_with fail
  go_loopw [3, 4] (fun v i wx => ∃ k : Nat, k ≤ s.length ∧ i = .int .i64 k ∧ Own tU w.heap.size wx v ((fold s).take k) ∧ Grows w wx) (fun _ i _ => s.length - (RowKit.intOf i).toNat)
  case atStart => exact ⟨0, Nat.zero_le _, rfl, Own.nil _ _, Below.refl _ _⟩
  case round =>
    obtain ⟨k, hk, rfl, HO, HG⟩ := hrel
    by_cases hlt : k < s.length
    · have b1 : (k : Int) < s.length := by omega
      have HT := Lib.hid (show (fold s).take (k + 1) = (fold s).take k ++ [sml s[k]] by
        rw [List.take_succ_eq_append_getElem (by rw [fold_length]; exact hlt)]; simp [fold])
      have HL := Lib.hid (show ((fold s).take k).length + 1 ≤ 1000000 by rw [List.length_take, fold_length]; omega)
      obtain ⟨c, hc0⟩ : ∃ c, s[k] = c := ⟨_, rfl⟩
      rw [hc0] at HT
      have hcn := Lib.hid (sml_nat c)
      have hc := c.toNat_lt
      generalize (fold s).take k = t at *
      have HO := Lib.hid HO
      have HG := Lib.hid HG
      obtain ⟨d, hd⟩ : ∃ d, sml c = d := ⟨_, rfl⟩
      rw [hd] at HT hcn
      clear hd
      have HO3 := Lib.hid (HO.out.later (w' := wr.alloc (.cells #[.int .u8 (d.toNat : Int)] 5)) ((Below.refl _ _).alloc (Nat.le_refl _) _))
      have HR1 := Lib.hid (show Row tU (wr.alloc (.cells #[.int .u8 (d.toNat : Int)] 5)) (.slice (some ⟨wr.heap.size, 0, none⟩) 1 1) [d] from row_one wr 5 d _ rfl)
      have GB := Lib.hid (show Grows w (wr.alloc (.cells #[.int .u8 (d.toNat : Int)] 5)) from HG.out.then ((Below.refl _ _).alloc (Nat.le_refl _) _))
      by_cases h1 : 65 ≤ c.toNat ∧ c.toNat ≤ 90
      · have c1 : (65 : Int) ≤ (c.toNat : Int) := by omega
        have c2 : (c.toNat : Int) ≤ 90 := by omega
        have ec := hcn.out
        rw [if_pos h1] at ec
        have ec2 : (c.toNat : Int) - 65 + 97 = (d.toNat : Int) := by omega
        clear hcn ec h1 hc
        go_wp2_with (at_builtin; refine wpList_append tU_ok rfl _ _ rfl rfl HO3.out rfl HR1.out (by have := HL.out; simp only [List.length_cons, List.length_nil]; omega) (by have := GB.out.size; exact this) ?_)
        intro v' w' hO6 hG3 _
        have hG4 := grow_append GB.out HO3.out (Nat.le_refl _) hG3
        have HO6 := Lib.hid hO6
        clear hO6 hG3
        go_wp2_with fail
        go_roundw
        case rel => exact ⟨k + 1, by omega, by go_num, by rw [HT.out]; exact HO6.out, hG4⟩
        case measure => simp [RowKit.intOf]; omega
      · have ec := hcn.out
        rw [if_neg h1] at ec
        obtain rfl : d = c := UInt8.toNat_inj.1 ec
        by_cases h2 : 65 ≤ d.toNat
        · have c1 : (65 : Int) ≤ (d.toNat : Int) := by omega
          have c2 : ¬ (d.toNat : Int) ≤ 90 := by omega
          clear hcn ec h1 h2 hc
          go_wp2_with (at_builtin; refine wpList_append tU_ok rfl _ _ rfl rfl HO3.out rfl HR1.out (by have := HL.out; simp only [List.length_cons, List.length_nil]; omega) (by have := GB.out.size; exact this) ?_)
          intro v' w' hO6 hG3 _
          have hG4 := grow_append GB.out HO3.out (Nat.le_refl _) hG3
          have HO6 := Lib.hid hO6
          clear hO6 hG3
          go_wp2_with fail
          go_roundw
          case rel => exact ⟨k + 1, by omega, by go_num, by rw [HT.out]; exact HO6.out, hG4⟩
          case measure => simp [RowKit.intOf]; omega
        · have c1 : ¬ (65 : Int) ≤ (d.toNat : Int) := by omega
          clear hcn ec h1 h2 hc
          go_wp2_with (at_builtin; refine wpList_append tU_ok rfl _ _ rfl rfl HO3.out rfl HR1.out (by have := HL.out; simp only [List.length_cons, List.length_nil]; omega) (by have := GB.out.size; exact this) ?_)
          intro v' w' hO6 hG3 _
          have hG4 := grow_append GB.out HO3.out (Nat.le_refl _) hG3
          have HO6 := Lib.hid hO6
          clear hO6 hG3
          go_wp2_with fail
          go_roundw
          case rel => exact ⟨k + 1, by omega, by go_num, by rw [HT.out]; exact HO6.out, hG4⟩
          case measure => simp [RowKit.intOf]; omega
    · obtain rfl : k = s.length := by omega
      rw [List.take_of_length_le (by rw [fold_length]; exact Nat.le_refl _)] at HO
      have HC := Lib.hid (show ∀ v, Own tU w.heap.size wr v (fold s) → (convert 55 9 v).run Try.prog wr = .ok (.string ⟨(fold s).toArray⟩) wr from by
        intro v h
        obtain ⟨a, cap, rfl, h1, h2, h3⟩ := h.row
        rcases a with _ | ad
        · have h0 : fold s = [] := by
            rcases h3 with h3 | ⟨b, o, h3, _⟩
            · exact h3
            · cases h3
          rw [h0, run_convert_bytes_nil wr 55 5 rfl rfl _ _ 9 rfl]
          rfl
        · refine run_convert_bytes_back _ 55 9 5 ad cap (fold s) rfl rfl rfl (fun j hj => ?_)
          rcases h3 with h3 | ⟨b, o, h3, h4⟩
          · rw [h3] at hj; simp at hj
          · obtain rfl := Option.some.inj h3
            rw [Go.WideShapes.add_plain b o j]
            exact h4 j _ (by rw [u8_flat]; exact u8s_at hj))
      have HC2 := Lib.hid (HC.out _ HO)
      have b1 : ¬ ((s.length : Int) < s.length) := by omega
      clear HC HO
      have HG := Lib.hid HG
      go_wp2_with fail
      rw [HC2.out]
      simp only [Result.andThen]
      rw [Oper.upon_value]
      go_wp2_with fail
      go_ret
      exact ⟨rfl, HG.out⟩
theorem rlessb_any (a b : List UInt8) (ha : Fits a) (hb : Fits b) (w : World) : Calls Try.prog 18 #[str a, str b] w fun e w' => e = .returned (.bool (lessN a b)) ∧ Grows w w' := rless_any a b ha hb w rfold_any

end Go.Proofs.Ytiliommilcifeaa
