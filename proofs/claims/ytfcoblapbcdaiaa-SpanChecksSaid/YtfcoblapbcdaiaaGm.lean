/- Plain facts on the greatest common divisor: no Go in sight. -/
import Derived.Test.YtfcoblapbcdaiaaA2
namespace Go.Proofs.Ytfcoblapbcdaiaa

theorem gcd_parts (N D : Int) (hD : 1 ≤ D) : ∃ (g : Nat) (n d : Int), g = Int.gcd N D ∧ 1 ≤ g ∧ N = (g : Int) * n ∧ D = (g : Int) * d ∧ 1 ≤ d ∧ Int.gcd n d = 1 := by
  obtain ⟨n, hn⟩ := Int.gcd_dvd_left N D
  obtain ⟨d, hd⟩ := Int.gcd_dvd_right N D
  have hg : 0 < Int.gcd N D := Int.gcd_pos_of_ne_zero_right _ (by omega)
  generalize hG : Int.gcd N D = g at *
  have hd1 : 1 ≤ d := by
    by_cases h : 1 ≤ d
    · exact h
    · have := Int.mul_le_mul_of_nonneg_left (show d ≤ 0 by omega) (show (0 : Int) ≤ (g : Int) by omega)
      rw [← hd] at this; omega
  refine ⟨g, n, d, rfl, hg, hn, hd, hd1, ?_⟩
  have h1 : Int.gcd ((g : Int) * n) ((g : Int) * d) = g * Int.gcd n d := by rw [Int.gcd_mul_left]; simp
  rw [← hn, ← hd, hG] at h1
  have : g * 1 = g * Int.gcd n d := by omega
  exact (Nat.eq_of_mul_eq_mul_left hg this).symm

theorem gcdOf_eq {a b : Int} {g : Nat} (h : Int.gcd a b = g) (hb : (g : Int) ≤ 9223372036854775807) : gcdOf a b = (g : Int) := (gcdOf_is h.symm hb).symm

/-- All that the law asks of a ratio, its multiple, and what Lowest makes of both. -/
theorem reduced_all (N D F : Int) (hN : -1099511627775 ≤ N ∧ N ≤ 1099511627775) (hD : 1 ≤ D ∧ D ≤ 1099511627776) (hF : 1 ≤ F ∧ F ≤ 1048576) :
    ∃ G p q : Int, gcdOf N D = G ∧ (1 ≤ G ∧ G ≤ 1099511627776) ∧ N.tdiv G = p ∧ D / G = q ∧ (1 ≤ q ∧ q ≤ 1099511627776) ∧ (-1099511627775 ≤ p ∧ p ≤ 1099511627775) ∧
      gcdOf (N * F) (D * F) = G * F ∧ (1 ≤ G * F ∧ G * F ≤ 1152921504606846976) ∧ (N * F).tdiv (G * F) = p ∧ (D * F) / (G * F) = q ∧
      cmpOf p q (N * F) (D * F) = 0 ∧ gcdOf p q = 1 ∧ N.tmod G = 0 ∧ D % G = 0 ∧ gcdOf D N = G := by
  obtain ⟨g, n, d, hg, hg1, rfl, rfl, hd1, h1⟩ := gcd_parts N D hD.1
  have hgd : (g : Int) ≤ (g : Int) * d := by have := Int.mul_le_mul_of_nonneg_left hd1 (show (0 : Int) ≤ (g : Int) by omega); omega
  have hqd : d ≤ (g : Int) * d := by have := Int.mul_le_mul_of_nonneg_right (show (1 : Int) ≤ (g : Int) by omega) (show 0 ≤ d by omega); omega
  have hgF : 1 ≤ (g : Int) * F ∧ (g : Int) * F ≤ 1152921504606846976 :=
    ⟨by have := Int.mul_le_mul (show (1 : Int) ≤ (g : Int) by omega) hF.1 (by omega) (by omega); omega, by have := Int.mul_le_mul (show (g : Int) ≤ 1099511627776 by omega) hF.2 (by omega) (by omega); omega⟩
  have hp : -1099511627775 ≤ n ∧ n ≤ 1099511627775 := by
    have e : ((g : Int) * n).natAbs = g * n.natAbs := by rw [Int.natAbs_mul]; simp
    have : n.natAbs ≤ g * n.natAbs := Nat.le_mul_of_pos_left _ hg1
    omega
  have hg0 : (g : Int) ≠ 0 := by omega
  have eN : ((g : Int) * n).tdiv (g : Int) = n := Int.mul_tdiv_cancel_left _ hg0
  have eD : (g : Int) * d / (g : Int) = d := Int.mul_ediv_cancel_left _ hg0
  have hgF0 : (g : Int) * F ≠ 0 := by omega
  refine ⟨g, n, d, gcdOf_eq hg.symm (by omega), by omega, eN, eD, by omega, hp, ?_, hgF, ?_, ?_, ?_, ?_, ?_, ?_, ?_⟩
  · obtain ⟨f, rfl⟩ := Int.eq_ofNat_of_zero_le (show 0 ≤ F by omega)
    have := gcdOf_eq (a := (g : Int) * n * (f : Int)) (b := (g : Int) * d * (f : Int)) (g := g * f) (by rw [Int.gcd_mul_right, ← hg]; simp) (by rw [Int.natCast_mul]; omega)
    rw [this, Int.natCast_mul]
  · rw [show (g : Int) * n * F = (g : Int) * F * n by ac_rfl]; exact Int.mul_tdiv_cancel_left _ hgF0
  · rw [show (g : Int) * d * F = (g : Int) * F * d by ac_rfl]; exact Int.mul_ediv_cancel_left _ hgF0
  · have hE : 1 ≤ (g : Int) * d * F := by have := Int.mul_le_mul (show (1 : Int) ≤ (g : Int) * d by omega) hF.1 (by omega) (by omega); omega
    unfold cmpOf
    rw [if_neg (by omega), show n * ((g : Int) * d * F) = (g : Int) * n * F * d by ac_rfl, Int.sub_self]
    rfl
  · exact gcdOf_eq (g := 1) h1 (by decide)
  · rw [Int.mul_comm]; exact Int.mul_tmod_left _ _
  · rw [Int.mul_comm]; exact Int.mul_emod_left _ _
  · exact gcdOf_eq (by rw [Int.gcd_comm]; exact hg.symm) (by omega)

end Go.Proofs.Ytfcoblapbcdaiaa
