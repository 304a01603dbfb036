/- The examples at the head of every law. -/
import Derived.Test.YtjiljkiedidmeaaDoorDec
namespace Go.Proofs.YtjiljkiedidmeaaDoor
open Go.RowKit Go.Lib

theorem row_made (w : World) (xs : List Value) (T : TypeId) (hx : (xs.length : Int) ≤ 9223372036854775807) : Row (w.alloc (.cells xs.toArray T)) (.slice (some ⟨w.heap.size, 0, none⟩) xs.length xs.length) xs := by
  refine ⟨_, _, rfl, Nat.le_refl _, hx, .inr ⟨w.heap.size, 0, rfl, ?_⟩⟩
  intro i u hu
  rw [Nat.zero_add, World.cell?_alloc_new]
  simpa using hu

set_option maxRecDepth 100000 in
set_option maxHeartbeats 4000000 in
theorem sane (w : World) (E : Env w) :
    Calls Tryd.prog 10 #[] w fun e w' => e = .returned (.bool true) ∧ Grows w w' := by
  go_enter Tryd.func10, Tryd.ntmps10
  go_wp2_with fail
  refine (int_any 0 _ ⟨by omega, by omega⟩ E).mono ?_
  rintro e w1 ⟨rfl, g1⟩
  rw [ex1]
  go_wp2_with fail
  refine (int_any (-1) _ ⟨by omega, by omega⟩ (E.grows g1)).mono ?_
  rintro e w2 ⟨rfl, g2⟩
  have g2 := g1.then g2
  clear g1
  rw [ex2]
  go_wp2_with fail
  refine (int_any 250 _ ⟨by omega, by omega⟩ (E.grows g2)).mono ?_
  rintro e w3 ⟨rfl, g3⟩
  have g3 := g2.then g3
  clear g2
  rw [ex3]
  go_wp2_with fail
  refine (text_any ⟨#[97, 98]⟩ _ (by decide) (E.grows g3)).mono ?_
  rintro e w4 ⟨rfl, g4⟩
  have g4 := g3.then g4
  clear g3
  rw [show encT (⟨#[97, 98]⟩ : ByteArray).data.toList = _ from ex4]
  go_wp2_with fail
  refine (text_any ⟨#[]⟩ _ (by decide) (E.grows g4)).mono ?_
  rintro e w5 ⟨rfl, g5⟩
  have g5 := g4.then g5
  clear g4
  rw [show encT (⟨#[]⟩ : ByteArray).data.toList = _ from ex5]
  go_wp2_with fail
  refine (wints_any _ [1, -2] _ (row_made w5 (ints [1, -2]) 3 (by decide)) (by intro n hn; simp at hn; rcases hn with rfl | rfl <;> exact ⟨by omega, by omega⟩) (by decide +kernel) ((E.grows g5).alloc _)).mono ?_
  rintro e w6 ⟨rfl, g6⟩
  have g6 := g5.then (((Below.refl _ _).alloc (Nat.le_refl _) _).trans (g6.mono (by simp)))
  clear g5
  rw [ex6]
  go_wp2_with fail
  refine (wints_any _ [] _ (Row.nil _) (by simp) (by decide) (E.grows g6)).mono ?_
  rintro e w7 ⟨rfl, g7⟩
  have g7 := g6.then g7
  clear g6
  rw [ex7]
  go_wp2_with fail
  refine (wtexts_any _ [[], [97]] _ (row_made w7 (strs [[], [97]]) 9 (by decide)) (by decide +kernel) ((E.grows g7).alloc _)).mono ?_
  rintro e w8 ⟨rfl, g8⟩
  have g8 := g7.then (((Below.refl _ _).alloc (Nat.le_refl _) _).trans (g8.mono (by simp)))
  clear g7
  rw [ex8]
  go_wp2_with fail
  refine (new_any [91, 49, 59, 45, 50, 59, 93, 51, 59] _).mono ?_
  rintro e w9 ⟨rfl, h9, g9⟩
  have g9 := g8.then g9
  have hB4 : 4 ≤ w8.heap.size := (E.grows g8).size
  have hBw : w.heap.size ≤ w8.heap.size := g8.size
  clear g8
  generalize w8.heap.size = B at *
  go_wp2_with fail
  refine (rdints_yes B _ _ _ _ (E.grows g9) hB4 (by decide) h9 ex9).mono ?_
  rintro e w10 ⟨v, rfl, o10, h10, g10⟩
  have hB9 := h9.lt
  have g10 : Grows w w10 := g9.trans (below_of_grown g10 hBw g9.size)
  clear g9 h9
  go_wp2_with fail
  refine (wleft_any B _ _ _ h10).mono ?_
  rintro e w11 ⟨rfl, rfl⟩
  go_wp2_with fail
  refine (rdint_yes B _ _ _ _ _ (E.grows g10) (by decide) h10 ex10).mono ?_
  rintro e w11 ⟨rfl, h11, g11⟩
  have o11 := owns_grown o10 g11 hB9
  have g11 : Grows w w11 := g10.trans (below_of_grown g11 hBw g10.size)
  clear g10 h10 o10
  go_wp2_with fail
  refine (same_ints _ _ [1, -2] [1, -2] _ ((Row.of_owns o11).later ((Below.refl _ _).alloc (Nat.le_refl _) _)) (row_made w11 (ints [1, -2]) 3 (by decide)) true (by decide)).mono ?_
  rintro e w12 ⟨rfl, g12⟩
  have g12a : Grows w11 w12 := ((Below.refl _ _).alloc (Nat.le_refl _) _).trans (g12.mono (by simp))
  have h12 := h11.later g12a
  have g12 := g11.then g12a
  clear g11 h11 o11 g12a
  go_wp2_with fail
  refine (wleft_any B _ _ _ h12).mono ?_
  rintro e w13 ⟨rfl, rfl⟩
  go_wp2_with fail
  refine (bad_any B _ _ _ h12).mono ?_
  rintro e w13 ⟨rfl, rfl⟩
  go_wp2_with fail
  refine (rdint_no B _ _ _ (E.grows g12) (by decide) h12 ex11).mono ?_
  rintro e w13 ⟨rfl, h13, g13⟩
  have g13 : Grows w w13 := g12.trans (below_of_grown g13 hBw g12.size)
  clear g12 h12
  go_wp2_with fail
  refine (bad_any B _ _ _ h13).mono ?_
  rintro e w14 ⟨rfl, rfl⟩
  go_wp2_with fail
  refine (malformed_any [48, 49, 59] _ (E.grows g13) (by decide) dead1).mono ?_
  rintro e w14 ⟨rfl, g14⟩
  have g14 := g13.then g14
  clear g13 h13
  go_wp2_with fail
  refine (malformed_any [43, 49, 59] _ (E.grows g14) (by decide) dead2).mono ?_
  rintro e w15 ⟨rfl, g15⟩
  have g15 := g14.then g15
  clear g14
  go_wp2_with fail
  refine (malformed_any [45, 48, 59] _ (E.grows g15) (by decide) dead3).mono ?_
  rintro e w16 ⟨rfl, g16⟩
  have g16 := g15.then g16
  clear g15
  go_wp2_with fail
  refine (malformed_any [49] _ (E.grows g16) (by decide) dead4).mono ?_
  rintro e w17 ⟨rfl, g17⟩
  have g17 := g16.then g17
  clear g16
  go_wp2_with fail
  refine (malformed_any [51, 58, 97, 98] _ (E.grows g17) (by decide) dead5).mono ?_
  rintro e w18 ⟨rfl, g18⟩
  have g18 := g17.then g18
  clear g17
  go_wp2_with fail
  go_ret
  exact ⟨rfl, g18⟩

end Go.Proofs.YtjiljkiedidmeaaDoor
