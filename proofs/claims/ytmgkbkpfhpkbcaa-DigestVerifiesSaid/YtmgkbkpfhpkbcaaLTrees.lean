/- The law DigestTrees: its walk. -/
import Derived.Test.YtmgkbkpfhpkbcaaLOf
namespace Go.Proofs.Ytmgkbkpfhpkbcaa
open Go.RowKit Go.Lib

attribute [local go_sem] str

theorem listOf_len (l : List (List UInt8)) : (listOf l).length ≤ 20 := by unfold listOf; rw [List.length_map, List.length_take]; omega
theorem listOf_str (l : List (List UInt8)) : ∀ s ∈ listOf l, s.length ≤ 30 := by
  intro s hs
  obtain ⟨t, _, rfl⟩ := List.mem_map.1 hs
  rw [List.length_take]; omega
theorem same_eq (v u : Value) (a : List (List UInt8)) (w : World) (hv : Row w v (strs a)) (hu : Row w u (strs a)) :
    Calls Try.prog 25 #[v, u] w fun e w' => e = .returned (.bool true) ∧ Grows w w' := by
  have := same_any v u a a w hv hu
  rwa [show decide (a = a) = true from decide_eq_true rfl] at this

set_option maxHeartbeats 1000000 in
theorem law_trees (v : Value) (l : List (List UInt8)) (i : Int) (w : World) (hv : Row w v (strs l)) (hl : ∀ s ∈ l, (s.length : Int) ≤ 9223372036854775807) :
    Calls Try.prog 6 #[v, .int .i64 i] w fun e w' => e = .returned (.bool true) ∧ Grows w w' := by
  have hV := Lib.hid hv
  have hL := Lib.hid hl
  clear hv hl
  go_enter Try.func6, Try.ntmps6
  go_wp2_with fail
  refine (sane _).mono ?_; rintro e w1 ⟨rfl, g1⟩; go_wp2_with fail
  refine (list_any v l _ (hV.out.later g1) hL.out).mono ?_; rintro e w2 ⟨v2, rfl, r2, g2⟩
  have g := g1.then g2
  clear g1 g2 hV hL
  have h20 := listOf_len l
  have hS := listOf_str l
  have HS := Lib.hid (show ∀ s ∈ listOf l, s.length ≤ 1000 from fun s hs => Nat.le_trans (hS s hs) (by decide))
  clear hS
  generalize listOf l = L at *
  have hform : ∃ a cap, v2 = .slice a L.length cap := by
    obtain ⟨a, cap, h, _⟩ := r2
    exact ⟨a, cap, by rw [h, strs_length]⟩
  obtain ⟨a2, cap2, rfl⟩ := hform
  have H32 := Lib.hid (show L.length ≤ 32 by omega)
  go_wp2_with fail
  obtain ⟨z, hz⟩ : ∃ z, bits .and .i64 i 31 = z := ⟨_, rfl⟩
  rw [hz]
  clear hz
  have hcell : ∀ j x, [i, z, (L.length : Int), -1][j]? = some x → (w2.alloc (.cells #[.int .i64 i, .int .i64 z, .int .i64 (L.length : Int), .int .i64 (-1)] 3)).cell? ⟨w2.heap.size, j, none⟩ = some (.int .i64 x) := by
    intro j x hx
    rw [World.cell?_alloc_new]
    match j, hx with
    | 0, hx => simpa using hx
    | 1, hx => simpa using hx
    | 2, hx => simpa using hx
    | 3, hx => simpa using hx
  have gW : Grows w (w2.alloc (.cells #[.int .i64 i, .int .i64 z, .int .i64 (L.length : Int), .int .i64 (-1)] 3)) := g.alloc g.size _
  have rW := r2.later ((Below.refl _ w2).alloc (Nat.le_refl _) (.cells #[.int .i64 i, .int .i64 z, .int .i64 (L.length : Int), .int .i64 (-1)] 3))
  have hX4 : [i, z, (L.length : Int), -1].length = 4 := rfl
  generalize w2.alloc (.cells #[.int .i64 i, .int .i64 z, .int .i64 (L.length : Int), .int .i64 (-1)] 3) = W at *
  generalize [i, z, (L.length : Int), -1] = XS at *
  generalize w2.heap.size = p at *
  have HX4 := Lib.hid hX4
  have HC := Lib.hid hcell
  have HR := Lib.hid rW
  have g0 : Grows W W := Below.refl _ _
  clear hcell hX4 rW r2 g
  go_loopw [22] (fun i wr => ∃ j : Nat, j ≤ 4 ∧ i = .int .i64 j ∧ Grows W wr) (fun i _ => 4 - (RowKit.intOf i).toNat)
  case atStart => exact ⟨0, Nat.zero_le _, rfl, g0⟩
  case round =>
    clear g0
    obtain ⟨j, hj, rfl, g⟩ := hrel
    by_cases hlt : j < 4
    · have hltX : j < XS.length := by rw [HX4.out]; exact hlt
      have hc0 := HC.out j XS[j] (List.getElem?_eq_getElem hltX)
      have hc1 : wr.cell? ⟨p, j, none⟩ = some (.int .i64 XS[j]) := (g.cell (World.block_lt_of_cell? W _ hc0)).trans hc0
      clear hc0
      generalize XS[j] = x at *
      have K1 := Lib.hid (fun W h => prove_any (.slice a2 L.length cap2) L x W h HS.out H32.out)
      have K2 := Lib.hid (fun W h => rprove_any (.slice a2 L.length cap2) L x W h HS.out H32.out)
      have K3 := Lib.hid (fun v u w => same_eq v u (prvI L x) w)
      generalize isIx L x = b0 at *
      generalize strs (prvI L x) = P at *
      go_wp2_with fail
      refine (K1.out _ (HR.out.later g)).mono ?_; rintro e w6 ⟨v6, rfl, r6, g6⟩; have g := g.then g6; clear g6 hc1; go_wp2_with fail
      refine (K2.out _ (HR.out.later g)).mono ?_; rintro e w7 ⟨v7, rfl, r7, g6⟩; have g := g.then g6; have r6 := r6.later g6; clear g6; go_wp2_with fail
      refine (K3.out _ _ _ r6 r7).mono ?_; rintro e w8 ⟨rfl, g6⟩; have g := g.then g6; clear g6 r6 r7; go_wp2_with fail
      go_roundw
      case rel => exact ⟨j + 1, by omega, by go_num, g⟩
      case measure => simp [RowKit.intOf]; omega
    · obtain rfl : j = 4 := by omega
      have gw := gW.then g
      have RR := HR.out.later g
      have K1 := Lib.hid (fun W h => root_any (.slice a2 L.length cap2) L W h HS.out H32.out)
      have K2 := Lib.hid (fun W h => rroot_any (.slice a2 L.length cap2) L W h HS.out H32.out)
      generalize rootL L = R at *
      go_wp2_with fail
      refine (K1.out _ RR).mono ?_; rintro e w6 ⟨rfl, g6⟩; have gw := gw.then g6; have RR := RR.later g6; clear g6; go_wp2_with fail
      refine (K2.out _ RR).mono ?_; rintro e w7 ⟨rfl, g6⟩; have gw := gw.then g6; clear g6 RR; go_wp2_with fail
      go_ret
      exact ⟨rfl, gw⟩
end Go.Proofs.Ytmgkbkpfhpkbcaa
