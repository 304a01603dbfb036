/- WireReads: the walk. -/
import Derived.Test.YtjiljkiedidmeaaDoorCanon
namespace Go.Proofs.YtjiljkiedidmeaaDoor
open Go.RowKit Go.Lib

/-- A []byte's cells. -/
def u8s (l : List UInt8) : List Value := l.map fun c => .int .u8 (c.toNat : Int)
theorem u8s_length (l : List UInt8) : (u8s l).length = l.length := by unfold u8s; simp

theorem FAt.lt {w : World} {b : Nat} {s l : List UInt8} {t : Bool} (h : FAt w b s l t) : b < w.heap.size := by
  obtain ⟨⟨k, _, _, h3⟩, _⟩ := h
  exact h3.lt

set_option maxRecDepth 100000 in
set_option maxHeartbeats 4000000 in
theorem reads_walk (l : List UInt8) (v1 : Value) (m : List UInt8) (w : World) (E : Env w) (hl : (l.length : Int) ≤ 9223372036854775807) (h1 : Row w v1 (u8s m)) :
    Calls Tryd.prog 4 #[.string ⟨l.toArray⟩, v1] w fun e w' => e = .returned (.bool true) ∧ Grows w w' := by
  have hx := extract_take l 200
  have hm := min_nat l.length 200
  have hs := size_of_list l
  have hle : min l.length 200 ≤ l.length := Nat.min_le_left _ _
  have hL : (l.take 200).length ≤ 200 := by rw [List.length_take]; omega
  rw [show (((200 : Nat) : Int)) = 200 from rfl] at hm
  generalize l.take 200 = L at *
  have hS : RowKit.Hid (Short L) := Lib.hid (show L.length < 4294967281 by omega)
  obtain ⟨a, cap, rfl, hc1, hc2, hrow⟩ := h1
  rw [u8s_length] at hc1
  rw [u8s_length]
  go_enter Tryd.func4, Tryd.ntmps4
  go_wp2_with fail
  refine (sane _ E).mono ?_
  rintro e w1 ⟨rfl, g1⟩
  go_wp2_with fail
  clear hx hm hs hle hl
  refine (new_any L _).mono ?_
  rintro e w2 ⟨rfl, h2, g2⟩
  go_wp2_with fail
  refine (rnew_any L _).mono ?_
  rintro e w3 ⟨rfl, h3, g3⟩
  have hA : WAt w3 w1.heap.size L false := ⟨h2.later g3, fun e => by cases e⟩
  have hB : FAt w3 w2.heap.size L L false := ⟨⟨0, Nat.zero_le _, fun _ => rfl, h3⟩, fun e => by cases e⟩
  have h4 : 4 ≤ w1.heap.size := (E.grows g1).size
  have h12 := h2.lt
  have gg := (g1.then g2).then g3
  clear h2 h3 g2 g3
  go_wp2_with fail
  have hAw : w.heap.size ≤ w1.heap.size := g1.size
  clear g1
  generalize w1.heap.size = A at *
  generalize w2.heap.size = B at *
  go_loopw [8] (fun x wr => ∃ k : Nat, k ≤ m.length ∧ k ≤ 12 ∧ x = .int .i64 k ∧ (∃ r t, WAt wr A r t ∧ FAt wr B L r t ∧ Hid (Short r)) ∧ Grows w wr) (fun x _ => 12 - (RowKit.intOf x).toNat)
  case atStart => exact ⟨0, Nat.zero_le _, Nat.zero_le _, rfl, ⟨L, false, hA, hB, hS⟩, gg⟩
  case round =>
    clear hA hB gg
    obtain ⟨k, hk, hk12, rfl, ⟨r, t, hA, hB, hSr⟩, gg⟩ := hrel
    have E1 := E.grows gg
    have hsz := gg.size
    have hAs := hA.1.lt
    have hBs := hB.lt
    by_cases hlt : k < m.length
    · by_cases h20 : k < 12
      · rcases hrow with h0 | ⟨b, o, rfl, hcell⟩
        · rw [show m = [] from List.map_eq_nil_iff.1 h0] at hlt
          simp at hlt
        · have e0 := hcell k (.int .u8 (m[k].toNat : Int)) (by unfold u8s; rw [List.getElem?_map, List.getElem?_eq_getElem hlt]; rfl)
          have c1 : wr.cell? ⟨b, o + k, none⟩ = some (.int .u8 (m[k].toNat : Int)) := (gg.cell (World.block_lt_of_cell? w _ e0)).trans e0
          clear hcell e0
          generalize hn : m[k].toNat = n at *
          have hn1 : n < 256 := by rw [← hn]; exact UInt8.toNat_lt _
          clear hn
          have h3 : n % 4 = 0 ∨ n % 4 = 1 ∨ n % 4 = 2 ∨ n % 4 = 3 := by omega
          rcases h3 with h3 | h3 | h3 | h3
          · have q1 : (n : Int).tmod 4 = 0 := by show ((n % 4 : Nat) : Int) = 0; omega
            clear h3
            have hsh := Lib.hid (outOf_short fitsI (d := 0) hSr.out)
            go_wp2_with fail
            refine (w_int _ _ _ _ E1 hSr.out hA).mono ?_
            rintro e w4 ⟨rfl, hA1, g1⟩
            have hB1 := hB.other g1 (by omega)
            have gg1 := gg.trans (below_of_grown g1 hAw hsz)
            have hs1 := g1.size
            generalize hp : outOf 0 rdI r = p at *
            obtain ⟨pv, r', t'⟩ := p
            replace hp := Lib.hid hp
            dsimp only at *
            clear hB hA c1 E1 gg
            go_wp2_with fail
            refine (f_int _ _ _ _ _ hS.out hB1).mono ?_
            rw [hp.out]
            dsimp only
            rintro e w5 ⟨rfl, hB2, g2⟩
            clear hp
            have hA2 := hA1.other g2 (by omega)
            have gg2 := gg1.trans (below_of_grown g2 (by omega) (by omega))
            clear hA1 hB1 gg1 g1 g2
            go_wp2_with fail
            refine (wleft_any _ _ _ _ hA2.1).mono ?_
            rintro e w7 ⟨rfl, rfl⟩
            go_wp2_with fail
            refine (f_left _ _ _ _ _ hS.out hB2).mono ?_
            rintro e w8 ⟨rfl, nd, rfl⟩
            have g4 := grows_drewN w5 nd
            replace hA2 := hA2.later g4
            replace hB2 := hB2.later g4
            replace gg2 := Grows.then gg2 g4
            clear g4
            have q2 : (((r'.length : Nat) : Int) != ((r'.length : Nat) : Int)) = false := by simp
            go_wp2_with fail
            refine (bad_any _ _ _ _ hA2.1).mono ?_
            rintro e w9 ⟨rfl, rfl⟩
            go_wp2_with fail
            refine (f_bad _ _ _ _ _ hB2).mono ?_
            rintro e w9 ⟨rfl, rfl⟩
            go_wp2_with fail
            go_roundw
            case rel => exact ⟨k + 1, by omega, by omega, by go_num, ⟨r', t', hA2, hB2, hsh⟩, gg2⟩
            case measure => simp [RowKit.intOf]; omega
          · have q1 : (n : Int).tmod 4 = 1 := by show ((n % 4 : Nat) : Int) = 1; omega
            clear h3
            have hsh := Lib.hid (outOf_short fitsT (d := []) hSr.out)
            go_wp2_with fail
            refine (w_text _ _ _ _ E1 hSr.out hA).mono ?_
            rintro e w4 ⟨rfl, hA1, g1⟩
            have hB1 := hB.other g1 (by omega)
            have gg1 := gg.trans (below_of_grown g1 hAw hsz)
            have hs1 := g1.size
            generalize hp : outOf [] rdT r = p at *
            obtain ⟨pv, r', t'⟩ := p
            replace hp := Lib.hid hp
            dsimp only at *
            clear hB hA c1 E1 gg
            go_wp2_with fail
            refine (f_text _ _ _ _ _ hS.out hB1).mono ?_
            rw [hp.out]
            dsimp only
            rintro e w5 ⟨rfl, hB2, g2⟩
            clear hp
            have hA2 := hA1.other g2 (by omega)
            have gg2 := gg1.trans (below_of_grown g2 (by omega) (by omega))
            clear hA1 hB1 gg1 g1 g2
            go_wp2_with fail
            refine (wleft_any _ _ _ _ hA2.1).mono ?_
            rintro e w7 ⟨rfl, rfl⟩
            go_wp2_with fail
            refine (f_left _ _ _ _ _ hS.out hB2).mono ?_
            rintro e w8 ⟨rfl, nd, rfl⟩
            have g4 := grows_drewN w5 nd
            replace hA2 := hA2.later g4
            replace hB2 := hB2.later g4
            replace gg2 := Grows.then gg2 g4
            clear g4
            have q2 : (((r'.length : Nat) : Int) != ((r'.length : Nat) : Int)) = false := by simp
            go_wp2_with fail
            refine (bad_any _ _ _ _ hA2.1).mono ?_
            rintro e w9 ⟨rfl, rfl⟩
            go_wp2_with fail
            refine (f_bad _ _ _ _ _ hB2).mono ?_
            rintro e w9 ⟨rfl, rfl⟩
            go_wp2_with fail
            go_roundw
            case rel => exact ⟨k + 1, by omega, by omega, by go_num, ⟨r', t', hA2, hB2, hsh⟩, gg2⟩
            case measure => simp [RowKit.intOf]; omega
          · have q1 : (n : Int).tmod 4 = 2 := by show ((n % 4 : Nat) : Int) = 2; omega
            clear h3
            have hsh := Lib.hid (outOf_short fitsIs (d := []) hSr.out)
            go_wp2_with fail
            refine (w_ints _ _ _ _ E1 h4 hSr.out hA).mono ?_
            rintro e w4 ⟨x1, rfl, o1, hA1, g1⟩
            have hB1 := hB.other g1 (by omega)
            have gg1 := gg.trans (below_of_grown g1 hAw hsz)
            have hs1 := g1.size
            generalize hp : outOf [] (rdL rdI) r = p at *
            obtain ⟨pv, r', t'⟩ := p
            replace hp := Lib.hid hp
            dsimp only at *
            clear hB hA c1 E1 gg
            go_wp2_with fail
            refine (f_ints _ _ _ _ _ hS.out hB1).mono ?_
            rw [hp.out]
            dsimp only
            rintro e w5 ⟨x2, rfl, o2, hB2, g2⟩
            clear hp
            have hA2 := hA1.other g2 (by omega)
            have gg2 := gg1.trans (below_of_grown g2 (by omega) (by omega))
            have r1 := Row.of_owns (owns_grown o1 g2 (by omega))
            have r2 := Row.of_owns o2
            clear o1 o2 hA1 hB1 gg1 g1 g2
            go_wp2_with fail
            refine (same_ints _ _ pv pv _ r1 r2 true (by simp)).mono ?_
            rintro e w6 ⟨rfl, g3⟩
            replace hA2 := hA2.later g3
            replace hB2 := hB2.later g3
            replace gg2 := Grows.then gg2 g3
            clear r1 r2 g3
            go_wp2_with fail
            refine (wleft_any _ _ _ _ hA2.1).mono ?_
            rintro e w7 ⟨rfl, rfl⟩
            go_wp2_with fail
            refine (f_left _ _ _ _ _ hS.out hB2).mono ?_
            rintro e w8 ⟨rfl, nd, rfl⟩
            have g4 := grows_drewN w6 nd
            replace hA2 := hA2.later g4
            replace hB2 := hB2.later g4
            replace gg2 := Grows.then gg2 g4
            clear g4
            have q2 : (((r'.length : Nat) : Int) != ((r'.length : Nat) : Int)) = false := by simp
            go_wp2_with fail
            refine (bad_any _ _ _ _ hA2.1).mono ?_
            rintro e w9 ⟨rfl, rfl⟩
            go_wp2_with fail
            refine (f_bad _ _ _ _ _ hB2).mono ?_
            rintro e w9 ⟨rfl, rfl⟩
            go_wp2_with fail
            go_roundw
            case rel => exact ⟨k + 1, by omega, by omega, by go_num, ⟨r', t', hA2, hB2, hsh⟩, gg2⟩
            case measure => simp [RowKit.intOf]; omega
          · have q1 : (n : Int).tmod 4 = 3 := by show ((n % 4 : Nat) : Int) = 3; omega
            clear h3
            have hsh := Lib.hid (outOf_short fitsTs (d := []) hSr.out)
            go_wp2_with fail
            refine (w_strs _ _ _ _ E1 h4 hSr.out hA).mono ?_
            rintro e w4 ⟨x1, rfl, o1, hA1, g1⟩
            have hB1 := hB.other g1 (by omega)
            have gg1 := gg.trans (below_of_grown g1 hAw hsz)
            have hs1 := g1.size
            generalize hp : outOf [] (rdL rdT) r = p at *
            obtain ⟨pv, r', t'⟩ := p
            replace hp := Lib.hid hp
            dsimp only at *
            clear hB hA c1 E1 gg
            go_wp2_with fail
            refine (f_strs _ _ _ _ _ hS.out hB1).mono ?_
            rw [hp.out]
            dsimp only
            rintro e w5 ⟨x2, rfl, o2, hB2, g2⟩
            clear hp
            have hA2 := hA1.other g2 (by omega)
            have gg2 := gg1.trans (below_of_grown g2 (by omega) (by omega))
            have r1 := Row.of_owns (owns_grown o1 g2 (by omega))
            have r2 := Row.of_owns o2
            clear o1 o2 hA1 hB1 gg1 g1 g2
            go_wp2_with fail
            refine (same_strs _ _ pv pv _ r1 r2 true (by simp)).mono ?_
            rintro e w6 ⟨rfl, g3⟩
            replace hA2 := hA2.later g3
            replace hB2 := hB2.later g3
            replace gg2 := Grows.then gg2 g3
            clear r1 r2 g3
            go_wp2_with fail
            refine (wleft_any _ _ _ _ hA2.1).mono ?_
            rintro e w7 ⟨rfl, rfl⟩
            go_wp2_with fail
            refine (f_left _ _ _ _ _ hS.out hB2).mono ?_
            rintro e w8 ⟨rfl, nd, rfl⟩
            have g4 := grows_drewN w6 nd
            replace hA2 := hA2.later g4
            replace hB2 := hB2.later g4
            replace gg2 := Grows.then gg2 g4
            clear g4
            have q2 : (((r'.length : Nat) : Int) != ((r'.length : Nat) : Int)) = false := by simp
            go_wp2_with fail
            refine (bad_any _ _ _ _ hA2.1).mono ?_
            rintro e w9 ⟨rfl, rfl⟩
            go_wp2_with fail
            refine (f_bad _ _ _ _ _ hB2).mono ?_
            rintro e w9 ⟨rfl, rfl⟩
            go_wp2_with fail
            go_roundw
            case rel => exact ⟨k + 1, by omega, by omega, by go_num, ⟨r', t', hA2, hB2, hsh⟩, gg2⟩
            case measure => simp [RowKit.intOf]; omega
      · obtain rfl : k = 12 := by omega
        go_wp2_with fail
        go_ret
        exact ⟨rfl, gg⟩
    · obtain rfl : k = m.length := by omega
      go_wp2_with fail
      go_ret
      exact ⟨rfl, gg⟩

end Go.Proofs.YtjiljkiedidmeaaDoor
