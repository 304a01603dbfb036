/- The examples at the head of every law hold. -/
import Derived.Test.YtmgkbkpfhpkbcaaNoProve
import Derived.Test.YtmgkbkpfhpkbcaaVfn
namespace Go.Proofs.Ytmgkbkpfhpkbcaa
open Go.RowKit Go.Lib

attribute [local go_sem] str

/-- The two examples with bytes. -/
theorem dig_e : dig [] = [0, 0, 0, 31, 0, 0, 0, 37] := by decide
theorem dig_0 : dig [0] = [0, 22, 213, 82, 0, 22, 249, 69] := by decide

def Gives (f : Nat) (args : Array Value) (v : Value) : Prop := ∀ W, Calls Try.prog f args W fun e w' => e = .returned v ∧ Grows W w'

set_option maxRecDepth 100000 in
set_option maxHeartbeats 2000000 in
theorem sane (w : World) : Calls Try.prog 10 #[] w fun e w' => e = .returned (.bool true) ∧ Grows w w' := by
  have c1 : Hid (Gives 12 #[.string ⟨#[]⟩] (.string ⟨#[0, 0, 0, 31, 0, 0, 0, 37]⟩)) := Lib.hid fun W => by have := of1_any [] W (by decide); rw [dig_e] at this; exact this
  have c2 : Hid (Gives 12 #[.string ⟨#[0]⟩] (.string ⟨#[0, 22, 213, 82, 0, 22, 249, 69]⟩)) := Lib.hid fun W => by have := of1_any [0] W (by decide); rw [dig_0] at this; exact this
  obtain ⟨D1, hD1⟩ : ∃ D, dig [1, 0, 0, 0, 0] = D := ⟨_, rfl⟩
  have c3 : Hid (Gives 14 #[.string ⟨#[]⟩, .string ⟨#[]⟩] (.string ⟨D1.toArray⟩)) := Lib.hid fun W => by have := chain_any [] [] W (by decide) (by decide); rw [show (1 :: (word ([] : List UInt8).length ++ [] ++ []) : List UInt8) = [1, 0, 0, 0, 0] from rfl, hD1] at this; exact this
  have c4 : Hid (Gives 12 #[.string ⟨#[1, 0, 0, 0, 0]⟩] (.string ⟨D1.toArray⟩)) := Lib.hid fun W => by have := of1_any [1, 0, 0, 0, 0] W (by decide); rw [hD1] at this; exact this
  obtain ⟨D2, hD2⟩ : ∃ D, dig [2, 0, 0, 0, 1, 107, 109, 107] = D := ⟨_, rfl⟩
  have hm : marked [107] [109] = [2, 0, 0, 0, 1, 107, 109, 107] := rfl
  have c5 : Hid (Gives 20 #[.string ⟨#[107]⟩, .string ⟨#[109]⟩] (.string ⟨D2.toArray⟩)) := Lib.hid fun W => by have := mark_any [107] [109] W (by decide) (by decide); rw [hm, hD2] at this; exact this
  have c6 : Hid (Gives 12 #[.string ⟨#[2, 0, 0, 0, 1, 107, 109, 107]⟩] (.string ⟨D2.toArray⟩)) := Lib.hid fun W => by have := of1_any [2, 0, 0, 0, 1, 107, 109, 107] W (by decide); rw [hD2] at this; exact this
  have c8 : Hid (Gives 18 #[.string ⟨#[107]⟩, .string ⟨#[109]⟩, .string ⟨D2.toArray⟩] (.bool true)) := Lib.hid fun W => by
    have := check_yes [107] [109] D2 W (by decide) (by decide) (by rw [← hD2]; rfl) (by decide) rfl
    rw [hm, hD2, show decide (D2 = D2) = true from decide_eq_true rfl] at this
    exact this
  obtain ⟨D3, hD3⟩ : ∃ D, dig (marked [] [109]) = D := ⟨_, rfl⟩
  have c9 : Hid (Gives 20 #[.string ⟨#[]⟩, .string ⟨#[109]⟩] (.string ⟨D3.toArray⟩)) := Lib.hid fun W => by have := mark_any [] [109] W (by decide) (by decide); rw [hD3] at this; exact this
  have c10 : Hid (Gives 18 #[.string ⟨#[]⟩, .string ⟨#[109]⟩, .string ⟨D3.toArray⟩] (.bool false)) := Lib.hid fun W => check_nil [109] D3 W (by rw [← hD3]; rfl)
  obtain ⟨A, hA⟩ : ∃ D, dig [3, 97] = D := ⟨_, rfl⟩
  obtain ⟨B, hB⟩ : ∃ D, dig [3, 98] = D := ⟨_, rfl⟩
  obtain ⟨N, hN⟩ : ∃ D, dig [5] = D := ⟨_, rfl⟩
  obtain ⟨R, hR⟩ : ∃ D, dig (4 :: (A ++ B)) = D := ⟨_, rfl⟩
  have lA : A.length = 8 := by rw [← hA]; rfl
  have lB : B.length = 8 := by rw [← hB]; rfl
  have c11 : Hid (Gives 12 #[.string ⟨#[3, 97]⟩] (.string ⟨A.toArray⟩)) := Lib.hid fun W => by have := of1_any [3, 97] W (by decide); rw [hA] at this; exact this
  have c12 : Hid (Gives 12 #[.string ⟨#[3, 98]⟩] (.string ⟨B.toArray⟩)) := Lib.hid fun W => by have := of1_any [3, 98] W (by decide); rw [hB] at this; exact this
  have c13 : Hid (Gives 12 #[.string ⟨#[5]⟩] (.string ⟨N.toArray⟩)) := Lib.hid fun W => by have := of1_any [5] W (by decide); rw [hN] at this; exact this
  have c14 : Hid (Gives 21 #[.slice none 0 0] (.string ⟨N.toArray⟩)) := Lib.hid fun W => by
    have := root_any (.slice none 0 0) [] W (Row.nil W) (by simp) (by simp)
    rw [show rootL [] = dig [5] from rfl, hN] at this
    exact this
  have c15 : Hid (∀ W : World, Calls Try.prog 21 #[.slice (some ⟨W.heap.size, 0, none⟩) 1 1] (W.alloc (.cells #[.string ⟨#[97]⟩] 9)) fun e w' => e = .returned (.string ⟨A.toArray⟩) ∧ Grows (W.alloc (.cells #[.string ⟨#[97]⟩] 9)) w') := Lib.hid fun W => by
    have := root_any _ [[97]] _ (Row.made W [[97]] (C := #[.string ⟨#[97]⟩]) (T := 9) rfl rfl (by simp)) (by simp) (by simp)
    rw [show rootL [[97]] = dig [3, 97] from rfl, hA] at this
    exact this
  have c16 : Hid (∀ W : World, Calls Try.prog 21 #[.slice (some ⟨W.heap.size, 0, none⟩) 2 2] (W.alloc (.cells #[.string ⟨#[97]⟩, .string ⟨#[98]⟩] 9)) fun e w' => e = .returned (.string ⟨R.toArray⟩) ∧ Grows (W.alloc (.cells #[.string ⟨#[97]⟩, .string ⟨#[98]⟩] 9)) w') := Lib.hid fun W => by
    have := root_any _ [[97], [98]] _ (Row.made W [[97], [98]] (C := #[.string ⟨#[97]⟩, .string ⟨#[98]⟩]) (T := 9) rfl rfl (by simp)) (by simp) (by simp)
    rw [show rootL [[97], [98]] = dig (4 :: (dig [3, 97] ++ dig [3, 98])) from rfl, hA, hB, hR] at this
    exact this
  have HB := Lib.hid (show ((⟨#[4]⟩ ++ ⟨A.toArray⟩ : ByteArray) ++ ⟨B.toArray⟩ : ByteArray) = ⟨(4 :: (A ++ B)).toArray⟩ by
    rw [show (⟨#[4]⟩ : ByteArray) = ⟨[4].toArray⟩ from rfl, ba_append, ba_append]; simp)
  have c17 : Hid (Gives 12 #[.string ⟨(4 :: (A ++ B)).toArray⟩] (.string ⟨R.toArray⟩)) := Lib.hid fun W => by have := of1_any (4 :: (A ++ B)) W (by simp; omega); rw [hR] at this; exact this
  have c18 : Hid (∀ W : World, Calls Try.prog 23 #[.slice (some ⟨W.heap.size, 0, none⟩) 3 3, .int .i64 2] (W.alloc (.cells #[.string ⟨#[97]⟩, .string ⟨#[98]⟩, .string ⟨#[99]⟩] 9)) fun e w' => ∃ v', e = .returned (.tuple #[v', .bool true]) ∧ Row w' v' (strs [N, R]) ∧ Grows (W.alloc (.cells #[.string ⟨#[97]⟩, .string ⟨#[98]⟩, .string ⟨#[99]⟩] 9)) w') := Lib.hid fun W => by
    have := prove_yes _ [[97], [98], [99]] 2 _ (Row.made W [[97], [98], [99]] (C := #[.string ⟨#[97]⟩, .string ⟨#[98]⟩, .string ⟨#[99]⟩]) (T := 9) rfl rfl (by simp)) (by simp) (by simp) (by simp)
    rw [show prv [[97], [98], [99]] 2 = [dig [5], dig (4 :: (dig [3, 97] ++ dig [3, 98]))] from rfl, hA, hB, hN, hR] at this
    exact this
  have c19 : Hid (∀ (W : World) (v : Value), Row W v (strs [N, R]) → Calls Try.prog 25 #[v, .slice (some ⟨W.heap.size, 0, none⟩) 2 2] (W.alloc (.cells #[.string ⟨N.toArray⟩, .string ⟨R.toArray⟩] 9)) fun e w' => e = .returned (.bool true) ∧ Grows (W.alloc (.cells #[.string ⟨N.toArray⟩, .string ⟨R.toArray⟩] 9)) w') := Lib.hid fun W v hv => by
    have := same_any v _ [N, R] [N, R] _ (hv.later ((Below.refl _ W).alloc (Nat.le_refl _) _)) (Row.made W [N, R] (C := #[.string ⟨N.toArray⟩, .string ⟨R.toArray⟩]) (T := 9) rfl rfl (by simp))
    rw [show decide ([N, R] = [N, R]) = true from decide_eq_true rfl] at this
    exact this
  have c20 : Hid (Gives 27 #[.string ⟨A.toArray⟩, .string ⟨#[97]⟩, .int .i64 0, .slice none 0 0] (.bool true)) := Lib.hid fun W => by
    have := vfy_any A [97] 0 _ [] W (by decide) (Row.nil W)
    rw [show ver A [97] 0 [] = true from decide_eq_true ⟨by omega, by decide, by decide, by simp, hA⟩] at this
    exact this
  have c21 : Hid (Gives 27 #[.string ⟨A.toArray⟩, .string ⟨#[97]⟩, .int .i64 1, .slice none 0 0] (.bool false)) := Lib.hid fun W => by
    have := vfy_any A [97] 1 _ [] W (by decide) (Row.nil W)
    rw [show ver A [97] 1 [] = false from decide_eq_false fun h => absurd h.2.2.1 (by decide)] at this
    exact this
  have lA' : A.length ≤ 8 := by omega
  have lB' : B.length ≤ 8 := by omega
  clear hD1 hD2 hm hD3 hA hB hN hR lA lB
  go_enter Try.func10, Try.ntmps10
  go_wp2_with fail
  refine (c1.out _).mono ?_; rintro e w1 ⟨rfl, g1⟩; go_wp2_with fail
  refine (c2.out _).mono ?_; rintro e w2 ⟨rfl, g2⟩; have g := g1.then g2; clear g1 g2; go_wp2_with fail
  refine (c3.out _).mono ?_; rintro e w3 ⟨rfl, g2⟩; have g := g.then g2; clear g2; go_wp2_with fail
  refine (c4.out _).mono ?_; rintro e w4 ⟨rfl, g2⟩; have g := g.then g2; clear g2; go_wp2_with fail
  refine (c5.out _).mono ?_; rintro e w5 ⟨rfl, g2⟩; have g := g.then g2; clear g2; go_wp2_with fail
  refine (c6.out _).mono ?_; rintro e w6 ⟨rfl, g2⟩; have g := g.then g2; clear g2; go_wp2_with fail
  refine (c5.out _).mono ?_; rintro e w7 ⟨rfl, g2⟩; have g := g.then g2; clear g2; go_wp2_with fail
  refine (c8.out _).mono ?_; rintro e w8 ⟨rfl, g2⟩; have g := g.then g2; clear g2; go_wp2_with fail
  refine (c9.out _).mono ?_; rintro e w9 ⟨rfl, g2⟩; have g := g.then g2; clear g2; go_wp2_with fail
  refine (c10.out _).mono ?_; rintro e w10 ⟨rfl, g2⟩; have g := g.then g2; clear g2; go_wp2_with fail
  refine (c11.out _).mono ?_; rintro e w11 ⟨rfl, g2⟩; have g := g.then g2; clear g2; go_wp2_with fail
  refine (c12.out _).mono ?_; rintro e w12 ⟨rfl, g2⟩; have g := g.then g2; clear g2; go_wp2_with fail
  refine (c13.out _).mono ?_; rintro e w13 ⟨rfl, g2⟩; have g := g.then g2; clear g2; go_wp2_with fail
  refine (c14.out _).mono ?_; rintro e w14 ⟨rfl, g2⟩; have g := g.then g2; clear g2; go_wp2_with fail
  refine (c15.out _).mono ?_; rintro e w15 ⟨rfl, g2⟩; have g : Grows w _ := Grows.then (g.alloc g.size _) g2; clear g2; go_wp2_with fail
  refine (c16.out _).mono ?_; rintro e w16 ⟨rfl, g2⟩; have g : Grows w _ := Grows.then (g.alloc g.size _) g2; clear g2; go_wp2_with fail
  rw [HB.out]
  refine (c17.out _).mono ?_; rintro e w17 ⟨rfl, g2⟩; have g := g.then g2; clear g2; go_wp2_with fail
  refine (c18.out _).mono ?_; rintro e w18 ⟨v', rfl, r18, g2⟩; have g : Grows w _ := Grows.then (g.alloc g.size _) g2; clear g2; go_wp2_with fail
  rw [HB.out]
  refine (c17.out _).mono ?_; rintro e w19 ⟨rfl, g2⟩; have g := g.then g2; have r19 := r18.later g2; clear g2 r18; go_wp2_with fail
  refine (c19.out _ _ r19).mono ?_; rintro e w20 ⟨rfl, g2⟩; have g : Grows w _ := Grows.then (g.alloc g.size _) g2; clear g2 r19; go_wp2_with fail
  refine (c20.out _).mono ?_; rintro e w21 ⟨rfl, g2⟩; have g := g.then g2; clear g2; go_wp2_with fail
  refine (c21.out _).mono ?_; rintro e w22 ⟨rfl, g2⟩; have g := g.then g2; clear g2; go_wp2_with fail
  go_ret
  exact ⟨rfl, g⟩
end Go.Proofs.Ytmgkbkpfhpkbcaa
