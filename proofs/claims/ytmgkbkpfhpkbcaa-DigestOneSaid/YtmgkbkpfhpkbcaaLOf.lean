/- The law DigestOf: its walk. -/
import Derived.Test.YtmgkbkpfhpkbcaaSane
import Derived.Test.YtmgkbkpfhpkbcaaList
namespace Go.Proofs.Ytmgkbkpfhpkbcaa
open Go.RowKit Go.Lib

attribute [local go_sem] str
set_option maxHeartbeats 1000000 in
theorem law_of (a b : List UInt8) (w : World) (ha : (a.length : Int) ≤ 9223372036854775807) (hb : (b.length : Int) ≤ 9223372036854775807) :
    Calls Try.prog 3 #[str a, str b] w fun e w' => e = .returned (.bool true) ∧ Grows w w' := by
  go_enter Try.func3, Try.ntmps3
  go_wp2_with fail
  refine (sane _).mono ?_; rintro e w1 ⟨rfl, g⟩; go_wp2_with fail
  refine (cut_any a _ ha).mono ?_; rintro e w2 ⟨rfl, rfl⟩; go_wp2_with fail
  refine (cut_any b _ hb).mono ?_; rintro e w2 ⟨rfl, rfl⟩; go_wp2_with fail
  have h1 := Lib.hid (show (a.take 200).length ≤ 100000 by rw [List.length_take]; omega)
  have h2 := Lib.hid (show (b.take 200).length ≤ 100000 by rw [List.length_take]; omega)
  generalize a.take 200 = x at *
  generalize b.take 200 = y at *
  refine (of1_any x _ h1.out).mono ?_; rintro e w2 ⟨rfl, g2⟩; have g := g.then g2; clear g2
  go_wp2_with fail
  refine (rof_any x _ (Nat.le_trans h1.out (by decide))).mono ?_; rintro e w3 ⟨rfl, g2⟩; have g := g.then g2; clear g2
  go_wp2_with fail
  refine (chain_any x y _ h1.out h2.out).mono ?_; rintro e w4 ⟨rfl, g2⟩; have g := g.then g2; clear g2
  go_wp2_with fail
  refine (rchain_any x y _ h1.out h2.out).mono ?_; rintro e w5 ⟨rfl, g2⟩; have g := g.then g2; clear g2
  go_wp2_with fail
  refine (of1_any x _ h1.out).mono ?_; rintro e w6 ⟨rfl, g2⟩; have g := g.then g2; clear g2
  have h3 := Lib.hid (show (dig x).length ≤ 100000 by rw [dig_length]; omega)
  go_wp2_with fail
  refine (chain_any (dig x) y _ h3.out h2.out).mono ?_; rintro e w7 ⟨rfl, g2⟩; have g := g.then g2; clear g2
  go_wp2_with fail
  refine (rof_any x _ (Nat.le_trans h1.out (by decide))).mono ?_; rintro e w8 ⟨rfl, g2⟩; have g := g.then g2; clear g2
  go_wp2_with fail
  refine (rchain_any (dig x) y _ h3.out h2.out).mono ?_; rintro e w9 ⟨rfl, g2⟩; have g := g.then g2; clear g2
  go_wp2_with fail
  go_ret
  exact ⟨rfl, g⟩
end Go.Proofs.Ytmgkbkpfhpkbcaa
