/- Spots that are moved, and sides of spots: the arithmetic. -/
import Derived.Test.YtoehojopoajcaaaGeoc
import Derived.Test.YtoehojopoajcaaaMoveD
import Derived.Test.YtoehojopoajcaaaSmall
namespace Go.Proofs.Ytoehojopoajcaaa.Geo

/-- A small spot that is right. -/
def Spt (x y z : Int) : Prop := 1 ≤ z ∧ z ≤ 32 ∧ -(16384 * z) ≤ x ∧ x ≤ 16384 * z ∧ -(16384 * z) ≤ y ∧ y ≤ 16384 * z
theorem Spt.rs {x y z : Int} (h : Spt x y z) : rs x y z = true := by unfold Spt at h; rw [rs_iff]; omega
theorem Spt.bd {x y z : Int} (h : Spt x y z) : 1 ≤ z ∧ z ≤ 32 ∧ -524288 ≤ x ∧ x ≤ 524288 ∧ -524288 ≤ y ∧ y ≤ 524288 := by unfold Spt at h; omega
theorem Spt.sb {x y z : Int} (h : Spt x y z) : sbd x y z = true := by rw [sbd_iff]; unfold SB; have := h.bd; omega

theorem mX_bd {a0 a2 b0 b2 F D : Int} (ha : -524288 ≤ a0 ∧ a0 ≤ 524288) (ha2 : 1 ≤ a2 ∧ a2 ≤ 32) (hb : -524288 ≤ b0 ∧ b0 ≤ 524288) (hb2 : 1 ≤ b2 ∧ b2 ≤ 32) (hD : 1 ≤ D ∧ D ≤ 64) (hF : 0 ≤ F ∧ F ≤ D) :
    -2147483648 ≤ mX a0 a2 b0 b2 F D ∧ mX a0 a2 b0 b2 F D ≤ 2147483648 := by
  have q1 := mul_b (D - F) b2 64 32 (by omega) (by omega) (by omega) (by omega)
  have q2 := mul_b ((D - F) * b2) a0 2048 524288 (by omega) (by omega) (by omega) (by omega)
  have q3 := mul_b F a2 64 32 (by omega) (by omega) (by omega) (by omega)
  have q4 := mul_b (F * a2) b0 2048 524288 (by omega) (by omega) (by omega) (by omega)
  unfold mX
  omega
theorem mD_bd {a2 b2 D : Int} (ha2 : 1 ≤ a2 ∧ a2 ≤ 32) (hb2 : 1 ≤ b2 ∧ b2 ≤ 32) (hD : 1 ≤ D ∧ D ≤ 64) : 1 ≤ mD a2 b2 D ∧ mD a2 b2 D ≤ 65536 := by
  have q1 := mul_p D a2 64 32 (by omega) (by omega)
  have q2 := mul_p (D * a2) b2 2048 32 (by omega) (by omega)
  unfold mD
  omega

theorem gcd_le {x y : Int} {B : Int} (hx : -B ≤ x ∧ x ≤ B) (hy : -B ≤ y ∧ y ≤ B) : ((Int.gcd x y : Nat) : Int) ≤ B := by
  by_cases h0 : x = 0
  · rw [h0, Int.gcd_zero_left]; omega
  · have : Int.gcd x y ≤ x.natAbs := Nat.le_of_dvd (by omega) (Nat.gcd_dvd_left _ _)
    omega
theorem gcdOf_small {x y : Int} (hx : -2147483648 ≤ x ∧ x ≤ 2147483648) (hy : -2147483648 ≤ y ∧ y ≤ 2147483648) : gcdOf x y = Int.gcd x y := by
  have := gcd_le hx hy
  unfold gcdOf
  rw [if_neg (by omega)]

/-- What divides by the greatest common divisor. -/
theorem lowest3 {X Y D : Int} (hX : -2147483648 ≤ X ∧ X ≤ 2147483648) (hY : -2147483648 ≤ Y ∧ Y ≤ 2147483648) (hD : 1 ≤ D ∧ D ≤ 65536) :
    ∃ G x y z : Int, gcdOf (gcdOf X Y) D = G ∧ X.tdiv G = x ∧ Y.tdiv G = y ∧ D / G = z ∧ 1 ≤ G ∧ x * G = X ∧ y * G = Y ∧ z * G = D ∧ gcdOf (gcdOf x y) z = 1 ∧ (1 ≤ z ∧ z ≤ 65536) ∧ (-2147483648 ≤ x ∧ x ≤ 2147483648) ∧ (-2147483648 ≤ y ∧ y ≤ 2147483648) := by
  have e1 := gcdOf_small hX hY
  have l1 := gcd_le hX hY
  have e2 : gcdOf (gcdOf X Y) D = Int.gcd (Int.gcd X Y : Nat) D := by rw [e1]; exact gcdOf_small (by omega) (by omega)
  generalize hg : Int.gcd X Y = g at *
  generalize hG : Int.gcd (g : Int) D = G at *
  have G0 : 0 < G := by rw [← hG]; exact Nat.gcd_pos_of_pos_right _ (by omega)
  have dg : (G : Int) ∣ (g : Int) := hG ▸ Int.gcd_dvd_left ..
  have dD : (G : Int) ∣ D := hG ▸ Int.gcd_dvd_right ..
  have dX : (G : Int) ∣ X := Int.dvd_trans dg (hg ▸ Int.gcd_dvd_left ..)
  have dY : (G : Int) ∣ Y := Int.dvd_trans dg (hg ▸ Int.gcd_dvd_right ..)
  obtain ⟨x, rfl⟩ := dX
  obtain ⟨y, rfl⟩ := dY
  obtain ⟨z, rfl⟩ := dD
  have hne : (G : Int) ≠ 0 := by omega
  have bx := Int.natAbs_mul (G : Int) x
  have by' := Int.natAbs_mul (G : Int) y
  have le : ∀ v : Int, v.natAbs ≤ ((G : Int) * v).natAbs := fun v => by rw [Int.natAbs_mul]; exact Nat.le_mul_of_pos_left _ (by omega)
  have lx := le x
  have ly := le y
  have hz : 1 ≤ z ∧ z ≤ 65536 := by
    have lz := le z
    have : 0 < z := by
      rcases Int.lt_trichotomy z 0 with h | h | h
      · have := Int.mul_neg_of_pos_of_neg (show (0 : Int) < G by omega) h; omega
      · rw [h, Int.mul_zero] at hD; omega
      · exact h
    omega
  have hx : -2147483648 ≤ x ∧ x ≤ 2147483648 := by omega
  have hy : -2147483648 ≤ y ∧ y ≤ 2147483648 := by omega
  refine ⟨G, x, y, z, e2, Int.mul_tdiv_cancel_left _ hne, Int.mul_tdiv_cancel_left _ hne, Int.mul_ediv_cancel_left _ hne, by omega, Int.mul_comm .., Int.mul_comm .., Int.mul_comm .., ?_, hz, hx, hy⟩
  have l2 := gcd_le hx hy
  rw [gcdOf_small hx hy, gcdOf_small (by omega) (by omega)]
  rw [Int.gcd_mul_left, Int.natAbs_natCast] at hg
  rw [← hg, Int.natCast_mul, Int.gcd_mul_left, Int.natAbs_natCast] at hG
  have : Int.gcd (Int.gcd x y : Nat) z = 1 := by
    have h : G * Int.gcd (Int.gcd x y : Nat) z = G * 1 := by rw [hG, Nat.mul_one]
    exact Nat.eq_of_mul_eq_mul_left G0 h
  rw [this]
  rfl

/-- What Move answers, with what it divides by. -/
structure Mv (a0 a1 a2 b0 b1 b2 F D s0 s1 s2 G : Int) : Prop where
  i : mvI a0 a1 a2 b0 b1 b2 F D = true
  m0 : mv0 a0 a1 a2 b0 b1 b2 F D = s0
  m1 : mv1 a0 a1 a2 b0 b1 b2 F D = s1
  m2 : mv2 a0 a1 a2 b0 b1 b2 F D = s2
  g : 1 ≤ G
  e0 : s0 * G = mX a0 a2 b0 b2 F D
  e1 : s1 * G = mX a1 a2 b1 b2 F D
  e2 : s2 * G = mD a2 b2 D
  low : gcdOf (gcdOf s0 s1) s2 = 1
  b2 : 1 ≤ s2 ∧ s2 ≤ 65536
  b0 : -2147483648 ≤ s0 ∧ s0 ≤ 2147483648
  b1 : -2147483648 ≤ s1 ∧ s1 ≤ 2147483648
theorem moved {a0 a1 a2 b0 b1 b2 F D : Int} (ha : Spt a0 a1 a2) (hb : Spt b0 b1 b2) (hD : 1 ≤ D ∧ D ≤ 64) (hF : 0 ≤ F ∧ F ≤ D) : ∃ s0 s1 s2 G, Mv a0 a1 a2 b0 b1 b2 F D s0 s1 s2 G := by
  have hi : mvI a0 a1 a2 b0 b1 b2 F D = true := mvI_3 ha.rs hb.rs (by rw [rf_iff]; omega)
  have ba := ha.bd
  have bb := hb.bd
  obtain ⟨G, x, y, z, hG, hx, hy, hz, h1, h2, h3, h4, h5, h6, h7, h8⟩ := lowest3 (mX_bd (a0 := a0) (a2 := a2) (b0 := b0) (b2 := b2) (F := F) (D := D) (by omega) (by omega) (by omega) (by omega) hD hF) (mX_bd (a0 := a1) (a2 := a2) (b0 := b1) (b2 := b2) (F := F) (D := D) (by omega) (by omega) (by omega) (by omega) hD hF) (mD_bd (a2 := a2) (b2 := b2) (by omega) (by omega) hD)
  refine ⟨x, y, z, G, hi, ?_, ?_, ?_, h1, h2, h3, h4, h5, h6, h7, h8⟩
  · unfold mv0; rw [if_pos hi]; unfold mG; rw [hG, hx]
  · unfold mv1; rw [if_pos hi]; unfold mG; rw [hG, hy]
  · unfold mv2; rw [if_pos hi]; unfold mG; rw [hG, hz]

theorem cancel {x y G : Int} (h : 1 ≤ G) (e : x * G = y * G) : x = y := Int.eq_of_mul_eq_mul_right (by omega) e
theorem Mv.zero {a0 a1 a2 b0 b1 b2 D s0 s1 s2 G : Int} (h : Mv a0 a1 a2 b0 b1 b2 0 D s0 s1 s2 G) : s0 * a2 = a0 * s2 ∧ s1 * a2 = a1 * s2 := by
  have e0 := h.e0; have e1 := h.e1; have e2 := h.e2
  unfold mX at e0 e1
  unfold mD at e2
  constructor <;> refine cancel h.g ?_ <;> grind
theorem Mv.one {a0 a1 a2 b0 b1 b2 D s0 s1 s2 G : Int} (h : Mv a0 a1 a2 b0 b1 b2 D D s0 s1 s2 G) : s0 * b2 = b0 * s2 ∧ s1 * b2 = b1 * s2 := by
  have e0 := h.e0; have e1 := h.e1; have e2 := h.e2
  unfold mX at e0 e1
  unfold mD at e2
  constructor <;> refine cancel h.g ?_ <;> grind
theorem Mv.line {a0 a1 a2 b0 b1 b2 F D s0 s1 s2 G : Int} (h : Mv a0 a1 a2 b0 b1 b2 F D s0 s1 s2 G) : (b0 * a2 - a0 * b2) * (s1 * a2 - a1 * s2) - (b1 * a2 - a1 * b2) * (s0 * a2 - a0 * s2) = 0 := by
  have e0 := h.e0; have e1 := h.e1; have e2 := h.e2
  unfold mX at e0 e1
  unfold mD at e2
  have k1 : (s1 * a2 - a1 * s2) * G = F * a2 * (b1 * a2 - a1 * b2) := by grind
  have k0 : (s0 * a2 - a0 * s2) * G = F * a2 * (b0 * a2 - a0 * b2) := by grind
  refine cancel h.g ?_
  rw [Int.sub_mul, Int.mul_assoc, Int.mul_assoc, k1, k0]
  grind
theorem Mv.side {a0 a1 a2 b0 b1 b2 F D s0 s1 s2 G : Int} (h : Mv a0 a1 a2 b0 b1 b2 F D s0 s1 s2 G) (ha : Spt a0 a1 a2) (hb : Spt b0 b1 b2) : sideS a0 a1 a2 b0 b1 b2 s0 s1 s2 = 0 := by
  rw [← sideS_yes _ _ _ _ _ _ _ _ _ ha.sb hb.sb (sbd_iff.2 (by unfold SB; have := h.b0; have := h.b1; have := h.b2; omega)), h.line]
  rfl

theorem sign_pos {x n : Int} (h : 0 < n) : (n * x).sign = x.sign := by rw [Int.sign_mul, Int.sign_eq_one_of_pos h, Int.one_mul]
theorem side_scale {a0 a1 a2 b0 b1 b2 q0 q1 q2 n : Int} (ha : Spt a0 a1 a2) (hb : sbd b0 b1 b2 = true) (hq : sbd q0 q1 q2 = true) (hn : 1 ≤ n ∧ n ≤ 30) : sideS (n * a0) (n * a1) (n * a2) b0 b1 b2 q0 q1 q2 = sideS a0 a1 a2 b0 b1 b2 q0 q1 q2 := by
  have hw : sbd (n * a0) (n * a1) (n * a2) = true := by
    have := ha.bd
    have q1 := mul_b n a0 30 524288 (by omega) (by omega) (by omega) (by omega)
    have q2 := mul_b n a1 30 524288 (by omega) (by omega) (by omega) (by omega)
    have q3 := mul_p n a2 30 32 (by omega) (by omega)
    rw [sbd_iff]; unfold SB; omega
  rw [← sideS_yes _ _ _ _ _ _ _ _ _ hw hb hq, ← sideS_yes _ _ _ _ _ _ _ _ _ ha.sb hb hq]
  have e : (b0 * (n * a2) - n * a0 * b2) * (q1 * (n * a2) - n * a1 * q2) - (b1 * (n * a2) - n * a1 * b2) * (q0 * (n * a2) - n * a0 * q2) = n * (n * ((b0 * a2 - a0 * b2) * (q1 * a2 - a1 * q2) - (b1 * a2 - a1 * b2) * (q0 * a2 - a0 * q2))) := by grind
  rw [e, sign_pos (by omega), sign_pos (by omega)]
theorem side_back {a0 a1 a2 b0 b1 b2 q0 q1 q2 : Int} (ha : Spt a0 a1 a2) (hb : Spt b0 b1 b2) (hq : sbd q0 q1 q2 = true) : sideS b0 b1 b2 a0 a1 a2 q0 q1 q2 = -sideS a0 a1 a2 b0 b1 b2 q0 q1 q2 := by
  rw [← sideS_yes _ _ _ _ _ _ _ _ _ hb.sb ha.sb hq, ← sideS_yes _ _ _ _ _ _ _ _ _ ha.sb hb.sb hq]
  have e : a2 * ((a0 * b2 - b0 * a2) * (q1 * b2 - b1 * q2) - (a1 * b2 - b1 * a2) * (q0 * b2 - b0 * q2)) = b2 * -((b0 * a2 - a0 * b2) * (q1 * a2 - a1 * q2) - (b1 * a2 - a1 * b2) * (q0 * a2 - a0 * q2)) := by grind
  rw [← Int.sign_neg, ← sign_pos (show 0 < a2 by have := ha.bd; omega), e, sign_pos (by have := hb.bd; omega)]
theorem side_plain {u0 u1 v0 v1 p0 p1 : Int} (hu : -20000 ≤ u0 ∧ u0 ≤ 20000 ∧ -20000 ≤ u1 ∧ u1 ≤ 20000) (hv : -20000 ≤ v0 ∧ v0 ≤ 20000 ∧ -20000 ≤ v1 ∧ v1 ≤ 20000) (hp : -20000 ≤ p0 ∧ p0 ≤ 20000 ∧ -20000 ≤ p1 ∧ p1 ≤ 20000) :
    sideS u0 u1 1 v0 v1 1 p0 p1 1 = sideOf u0 u1 v0 v1 p0 p1 := by
  have i : ∀ x y : Int, (-20000 ≤ x ∧ x ≤ 20000 ∧ -20000 ≤ y ∧ y ≤ 20000) → In x y := fun x y h => by rw [in_iff]; omega
  have j : ∀ x y : Int, (-20000 ≤ x ∧ x ≤ 20000 ∧ -20000 ≤ y ∧ y ≤ 20000) → sbd x y 1 = true := fun x y h => by rw [sbd_iff]; unfold SB; omega
  rw [← sideS_yes _ _ _ _ _ _ _ _ _ (j _ _ hu) (j _ _ hv) (j _ _ hp), side_in (i _ _ hu) (i _ _ hv) (i _ _ hp)]
  simp only [Int.mul_one]
  rfl
theorem cut_spt (x y d : Int) : Spt (cutX x (d % 32)) (cutX y (d % 32)) (cutD (d % 32)) := by
  have h1 := cutX_bd x (d % 32)
  have h2 := cutX_bd y (d % 32)
  have h3 : 1 ≤ cutD (d % 32) ∧ cutD (d % 32) ≤ 32 := by unfold cutD; omega
  unfold Spt
  omega

end Go.Proofs.Ytoehojopoajcaaa.Geo
