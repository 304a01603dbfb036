/- A turn and a translation, in plain geometry. -/
import Derived.Test.YtoehojopoajcaaaGeoc
import Derived.Test.YtoehojopoajcaaaSmall
namespace Go.Proofs.Ytoehojopoajcaaa.Geo
open Go.RowKit Go.Lib

/-- A point turned by quarters. -/
def rq (m : Nat) (x y : Int) : Int × Int := if m = 0 then (x, y) else if m = 1 then (-y, x) else if m = 2 then (-x, -y) else (y, -x)
theorem four {m : Nat} (h : m ≤ 3) : m = 0 ∨ m = 1 ∨ m = 2 ∨ m = 3 := by omega
theorem w1 {x : Int} (h : -9223372036854775807 ≤ x ∧ x ≤ 9223372036854775807) : wrap64 (-x) = -x := IntWalk.wrap64_in _ (by omega)
theorem rotN_rq {m : Nat} (hm : m ≤ 3) {x y : Int} (hx : -9223372036854775806 ≤ x ∧ x ≤ 9223372036854775806) (hy : -9223372036854775806 ≤ y ∧ y ≤ 9223372036854775806) : rotN m x y = rq m x y := by
  rcases four hm with rfl | rfl | rfl | rfl
  · rfl
  · show (wrap64 (-y), x) = _
    rw [w1 (by omega)]; rfl
  · show (wrap64 (-x), wrap64 (-y)) = _
    rw [w1 (by omega), w1 (by omega)]; rfl
  · show (wrap64 (-wrap64 (-y)), wrap64 (-x)) = _
    rw [w1 (x := y) (by omega), w1 (x := x) (by omega), w1 (by omega), Int.neg_neg]; rfl
theorem rq_bd {m : Nat} (hm : m ≤ 3) {x y B : Int} (hx : -B ≤ x ∧ x ≤ B) (hy : -B ≤ y ∧ y ≤ B) : (-B ≤ (rq m x y).1 ∧ (rq m x y).1 ≤ B) ∧ (-B ≤ (rq m x y).2 ∧ (rq m x y).2 ≤ B) := by
  rcases four hm with rfl | rfl | rfl | rfl <;> simp [rq] <;> omega

/-- A point that is turned and moved. -/
structure Tm (m : Nat) (u v x y p q : Int) : Prop where
  a : p = (rq m x y).1 + u
  b : q = (rq m x y).2 + v

theorem cr_tm {m : Nat} (hm : m ≤ 3) {u v a b c d e f p q r s g h : Int} (h1 : Tm m u v a b p q) (h2 : Tm m u v c d r s) (h3 : Tm m u v e f g h) : cr p q r s g h = cr a b c d e f := by
  obtain ⟨rfl, rfl⟩ := h1; obtain ⟨rfl, rfl⟩ := h2; obtain ⟨rfl, rfl⟩ := h3
  rcases four hm with rfl | rfl | rfl | rfl <;> simp [rq] <;> unfold cr <;> grind
theorem bx_tm {m : Nat} (hm : m ≤ 3) {u v a b c d e f p q r s g h : Int} (h1 : Tm m u v a b p q) (h2 : Tm m u v c d r s) (h3 : Tm m u v e f g h) : bx p q r s g h ↔ bx a b c d e f := by
  obtain ⟨rfl, rfl⟩ := h1; obtain ⟨rfl, rfl⟩ := h2; obtain ⟨rfl, rfl⟩ := h3
  rcases four hm with rfl | rfl | rfl | rfl <;> simp [rq] <;> unfold bx bt <;> omega
theorem eq_tm {m : Nat} (hm : m ≤ 3) {u v a b c d p q r s : Int} (h1 : Tm m u v a b p q) (h2 : Tm m u v c d r s) : (p = r ∧ q = s) ↔ (a = c ∧ b = d) := by
  obtain ⟨rfl, rfl⟩ := h1; obtain ⟨rfl, rfl⟩ := h2
  rcases four hm with rfl | rfl | rfl | rfl <;> simp [rq] <;> omega
theorem meet_tm {m : Nat} (hm : m ≤ 3) {u v a0 a1 b0 b1 c0 c1 d0 d1 p0 p1 q0 q1 r0 r1 s0 s1 : Int} (h1 : Tm m u v a0 a1 p0 p1) (h2 : Tm m u v b0 b1 q0 q1) (h3 : Tm m u v c0 c1 r0 r1) (h4 : Tm m u v d0 d1 s0 s1) :
    meetG p0 p1 q0 q1 r0 r1 s0 s1 = meetG a0 a1 b0 b1 c0 c1 d0 d1 :=
  meetG_keep (cr_tm hm h3 h4 h1) (cr_tm hm h3 h4 h2) (cr_tm hm h1 h2 h3) (cr_tm hm h1 h2 h4) (bx_tm hm h3 h4 h1) (bx_tm hm h3 h4 h2) (bx_tm hm h1 h2 h3) (bx_tm hm h1 h2 h4) (eq_tm hm h1 h2) (eq_tm hm h1 h3) (eq_tm hm h1 h4) (eq_tm hm h2 h3) (eq_tm hm h2 h4) (eq_tm hm h3 h4)
theorem on_tm {m : Nat} (hm : m ≤ 3) {u v a b c d e f p q r s g h : Int} (h1 : Tm m u v a b p q) (h2 : Tm m u v c d r s) (h3 : Tm m u v e f g h) : on p q r s g h = on a b c d e f := by
  unfold on; rw [cr_tm hm h1 h2 h3]; exact decide_eq_decide.2 (by rw [bx_tm hm h1 h2 h3])
theorem in_small {x y : Int} (h : -20000 ≤ x ∧ x ≤ 20000 ∧ -20000 ≤ y ∧ y ≤ 20000) : In x y := by rw [in_iff]; omega

/-- What PointTurns says. -/
theorem turns {m : Nat} (hm : m ≤ 3) {u v a0 a1 b0 b1 c0 c1 d0 d1 p0 p1 q0 q1 r0 r1 s0 s1 : Int} (h1 : Tm m u v a0 a1 p0 p1) (h2 : Tm m u v b0 b1 q0 q1) (h3 : Tm m u v c0 c1 r0 r1) (h4 : Tm m u v d0 d1 s0 s1)
    (ha : In a0 a1) (hb : In b0 b1) (hc : In c0 c1) (hd : In d0 d1) (hp : In p0 p1) (hq : In q0 q1) (hr : In r0 r1) (hs : In s0 s1) :
    sideOf p0 p1 q0 q1 r0 r1 = sideOf a0 a1 b0 b1 c0 c1 ∧ sideOf b0 b1 a0 a1 c0 c1 = -sideOf a0 a1 b0 b1 c0 c1 ∧ sideOf b0 b1 c0 c1 a0 a1 = sideOf a0 a1 b0 b1 c0 c1 ∧ onOf p0 p1 q0 q1 r0 r1 = onOf a0 a1 b0 b1 c0 c1 ∧
    meetOf p0 p1 q0 q1 r0 r1 s0 s1 = meetOf a0 a1 b0 b1 c0 c1 d0 d1 ∧ meetOf c0 c1 d0 d1 a0 a1 b0 b1 = meetOf a0 a1 b0 b1 c0 c1 d0 d1 ∧ meetOf b0 b1 a0 a1 c0 c1 d0 d1 = meetOf a0 a1 b0 b1 c0 c1 d0 d1 ∧ meetOf a0 a1 b0 b1 d0 d1 c0 c1 = meetOf a0 a1 b0 b1 c0 c1 d0 d1 := by
  rw [side_in hp hq hr, side_in ha hb hc, side_in hb ha hc, side_in hb hc ha, on_in hp hq hr, on_in ha hb hc, meet_in hp hq hr hs, meet_in ha hb hc hd, meet_in hc hd ha hb, meet_in hb ha hc hd, meet_in ha hb hd hc]
  exact ⟨by rw [cr_tm hm h1 h2 h3], cr_flip _ _ _ _ _ _, by rw [cr_next], on_tm hm h1 h2 h3, meet_tm hm h1 h2 h3 h4, meetG_swap _ _ _ _ _ _ _ _, meetG_left _ _ _ _ _ _ _ _, meetG_right _ _ _ _ _ _ _ _⟩

end Go.Proofs.Ytoehojopoajcaaa.Geo
