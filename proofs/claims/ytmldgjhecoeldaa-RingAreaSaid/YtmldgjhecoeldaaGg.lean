/- Rays: how a segment passes a point, what a quarter of a turn changes of it, and sums along a ring. Sums. Rings between a lower and an upper line: their areas, rays and points. Which points are on a ring between two lines, and in it. Two segments that meet have boxes that meet. A ring between two lines does not meet itself. Rings that begin with another point, and rings in the other direction. The theorem of Pick for rings between two lines. -/
import Derived.Test.YtmldgjhecoeldaaGeoe
namespace Go.Proofs.Ytmldgjhecoeldaa
open Geo

/-- A segment passes to the left of a point. -/
def ry (a0 a1 b0 b1 p0 p1 : Int) : Int := if a1 ≤ p1 ∧ p1 < b1 ∧ cr a0 a1 b0 b1 p0 p1 < 0 then 1 else if b1 ≤ p1 ∧ p1 < a1 ∧ cr b0 b1 a0 a1 p0 p1 < 0 then -1 else 0
/-- A segment passes above a point. -/
def ru (a0 a1 b0 b1 p0 p1 : Int) : Int := if a0 ≤ p0 ∧ p0 < b0 ∧ cr a0 a1 b0 b1 p0 p1 < 0 then 1 else if b0 ≤ p0 ∧ p0 < a0 ∧ cr b0 b1 a0 a1 p0 p1 < 0 then -1 else 0
/-- A point is in the quarter to the left of another one, and above it. -/
def hq (x0 x1 p0 p1 : Int) : Int := if x0 ≤ p0 ∧ p1 < x1 then 1 else 0

theorem cr_uv (u0 u1 v0 v1 p0 p1 : Int) : cr (p0 + u0) (p1 + u1) (p0 + v0) (p1 + v1) p0 p1 = u0 * v1 - u1 * v0 := by unfold cr; grind

theorem mul_sg (x y : Int) : (0 < x → 0 < y → 0 < x * y) ∧ (x < 0 → y < 0 → 0 < x * y) ∧ (0 < x → y < 0 → x * y < 0) ∧ (x < 0 → 0 < y → x * y < 0) ∧ (x = 0 → x * y = 0) ∧ (y = 0 → x * y = 0) :=
  ⟨fun h k => Int.mul_pos h k, fun h k => Int.mul_pos_of_neg_of_neg h k, fun h k => Int.mul_neg_of_pos_of_neg h k, fun h k => Int.mul_neg_of_neg_of_pos h k, fun h => by rw [h, Int.zero_mul], fun h => by rw [h, Int.mul_zero]⟩

theorem ry_ru {a0 a1 b0 b1 p0 p1 : Int} (h : ¬ (cr a0 a1 b0 b1 p0 p1 = 0 ∧ bx a0 a1 b0 b1 p0 p1)) : ry a0 a1 b0 b1 p0 p1 - ru a0 a1 b0 b1 p0 p1 = hq b0 b1 p0 p1 - hq a0 a1 p0 p1 := by
  obtain ⟨u0, rfl⟩ : ∃ u, a0 = p0 + u := ⟨a0 - p0, by omega⟩
  obtain ⟨u1, rfl⟩ : ∃ u, a1 = p1 + u := ⟨a1 - p1, by omega⟩
  obtain ⟨v0, rfl⟩ : ∃ u, b0 = p0 + u := ⟨b0 - p0, by omega⟩
  obtain ⟨v1, rfl⟩ : ∃ u, b1 = p1 + u := ⟨b1 - p1, by omega⟩
  unfold ry ru hq
  rw [cr_uv] at h
  rw [cr_uv, cr_uv, Int.mul_comm v0 u1, Int.mul_comm v1 u0]
  have h1 := mul_sg u0 v1
  have h2 := mul_sg u1 v0
  unfold bx bt at h
  generalize u0 * v1 = M at *
  generalize u1 * v0 = N at *
  have e1 : (p1 + u1 ≤ p1) ↔ ¬ 0 < u1 := by omega
  have e2 : (p1 + v1 ≤ p1) ↔ ¬ 0 < v1 := by omega
  have e3 : (p0 + u0 ≤ p0) ↔ ¬ 0 < u0 := by omega
  have e4 : (p0 + v0 ≤ p0) ↔ ¬ 0 < v0 := by omega
  have e5 : (p1 < p1 + u1) ↔ 0 < u1 := by omega
  have e6 : (p1 < p1 + v1) ↔ 0 < v1 := by omega
  have e7 : (p0 < p0 + u0) ↔ 0 < u0 := by omega
  have e8 : (p0 < p0 + v0) ↔ 0 < v0 := by omega
  simp only [e1, e2, e3, e4, e5, e6, e7, e8]
  clear e1 e2 e3 e4 e5 e6 e7 e8
  by_cases A : 0 < u0 <;> by_cases B : 0 < u1 <;> by_cases C : 0 < v0 <;> by_cases E : 0 < v1 <;>
    simp only [A, B, C, E, not_true, not_false_eq_true, true_and, false_and, and_true, and_false, if_true, if_false, Int.sub_zero, Int.sub_self, Int.zero_sub] <;> (repeat' split) <;> omega
end Go.Proofs.Ytmldgjhecoeldaa

namespace Go.Proofs.Ytmldgjhecoeldaa
open Geo

def sumT (f : Nat → Int) : Nat → Int
  | 0 => 0
  | n + 1 => sumT f n + f n
theorem sumT_congr {f g : Nat → Int} : ∀ {n : Nat}, (∀ k, k < n → f k = g k) → sumT f n = sumT g n := by
  intro n
  induction n with
  | zero => intro _; rfl
  | succ n ih => intro h; rw [sumT, sumT, ih (fun k hk => h k (by omega)), h n (by omega)]
theorem sumT_add (f g : Nat → Int) : ∀ n, sumT (fun k => f k + g k) n = sumT f n + sumT g n := by
  intro n
  induction n with
  | zero => rfl
  | succ n ih => simp only [sumT]; omega
theorem sumT_sub (f g : Nat → Int) : ∀ n, sumT (fun k => f k - g k) n = sumT f n - sumT g n := by
  intro n
  induction n with
  | zero => rfl
  | succ n ih => simp only [sumT]; omega
theorem sumT_neg (f : Nat → Int) : ∀ n, sumT (fun k => -f k) n = -sumT f n := by
  intro n
  induction n with
  | zero => rfl
  | succ n ih => simp only [sumT]; omega
theorem sumT_zero {f : Nat → Int} {n : Nat} (h : ∀ k, k < n → f k = 0) : sumT f n = 0 := by
  rw [sumT_congr (g := fun _ => 0) h]
  clear h
  induction n with
  | zero => rfl
  | succ n ih => simp only [sumT]; omega
theorem sumT_const (c : Int) (n : Nat) : sumT (fun _ => c) n = n * c := by
  induction n with
  | zero => simp [sumT]
  | succ n ih => rw [sumT, ih]; grind
theorem sumT_first (f : Nat → Int) : ∀ n, sumT f (n + 1) = f 0 + sumT (fun k => f (k + 1)) n := by
  intro n
  induction n with
  | zero => simp [sumT]
  | succ n ih => rw [sumT, ih, sumT]; omega
theorem sumT_split (f : Nat → Int) (a : Nat) : ∀ b, sumT f (a + b) = sumT f a + sumT (fun k => f (a + k)) b := by
  intro b
  induction b with
  | zero => simp [sumT]
  | succ b ih => rw [← Nat.add_assoc, sumT, ih, sumT]; omega
theorem sumT_flip (f : Nat → Int) : ∀ n, sumT (fun k => f (n - 1 - k)) n = sumT f n := by
  intro n
  induction n with
  | zero => rfl
  | succ n ih =>
    rw [sumT_first, sumT, ← ih, Int.add_comm]
    congr 1
    exact sumT_congr fun k hk => by rw [show n + 1 - 1 - (k + 1) = n - 1 - k by omega]
/-- All but one are nothing. -/
theorem sumT_one {f : Nat → Int} {n i : Nat} (hi : i < n) (h : ∀ k, k < n → k ≠ i → f k = 0) : sumT f n = f i := by
  induction n with
  | zero => omega
  | succ n ih =>
    rw [sumT]
    by_cases e : i = n
    · subst e; rw [sumT_zero (fun k hk => h k (by omega) (by omega))]; omega
    · rw [ih (by omega) (fun k hk hne => h k (by omega) hne), h n (by omega) (by omega)]; omega

/-- The next index of a ring. -/
def nx (n k : Nat) : Nat := if k + 1 = n then 0 else k + 1
theorem sumT_nx (g : Nat → Int) (n : Nat) : sumT (fun k => g (nx n k)) n = sumT g n := by
  cases n with
  | zero => rfl
  | succ n =>
    rw [sumT_first g, sumT, Int.add_comm]
    congr 1
    · unfold nx; rw [if_pos rfl]
    · exact sumT_congr fun k hk => by unfold nx; rw [if_neg (by omega)]

/-- The sum of the rays of a ring's segments, to the left and upwards. -/
def rays (P : Nat → Int × Int) (n : Nat) (p : Int × Int) : Int := sumT (fun k => ry (P k).1 (P k).2 (P (nx n k)).1 (P (nx n k)).2 p.1 p.2) n
def raysU (P : Nat → Int × Int) (n : Nat) (p : Int × Int) : Int := sumT (fun k => ru (P k).1 (P k).2 (P (nx n k)).1 (P (nx n k)).2 p.1 p.2) n
/-- No segment has the point. -/
def Off (P : Nat → Int × Int) (n : Nat) (p : Int × Int) : Prop := ∀ k, k < n → ¬ (cr (P k).1 (P k).2 (P (nx n k)).1 (P (nx n k)).2 p.1 p.2 = 0 ∧ bx (P k).1 (P k).2 (P (nx n k)).1 (P (nx n k)).2 p.1 p.2)

theorem rays_up {P : Nat → Int × Int} {n : Nat} {p : Int × Int} (h : Off P n p) : rays P n p = raysU P n p := by
  have h1 : sumT (fun k => ry (P k).1 (P k).2 (P (nx n k)).1 (P (nx n k)).2 p.1 p.2 - ru (P k).1 (P k).2 (P (nx n k)).1 (P (nx n k)).2 p.1 p.2) n = sumT (fun k => hq (P (nx n k)).1 (P (nx n k)).2 p.1 p.2 - hq (P k).1 (P k).2 p.1 p.2) n :=
    sumT_congr fun k hk => ry_ru (h k hk)
  rw [sumT_sub, sumT_sub, sumT_nx (fun k => hq (P k).1 (P k).2 p.1 p.2)] at h1
  unfold rays raysU
  omega
/-- A quarter of a turn. -/
def tq (p : Int × Int) : Int × Int := (-p.2, p.1)
theorem cr_tq (a b c d e f : Int) : cr (-b) a (-d) c (-f) e = cr a b c d e f := by unfold cr; grind
theorem bx_tq {a b c d e f : Int} : bx (-b) a (-d) c (-f) e ↔ bx a b c d e f := by unfold bx bt; omega
theorem ry_tq (a0 a1 b0 b1 p0 p1 : Int) : ry (-a1) a0 (-b1) b0 (-p1) p0 = ru a0 a1 b0 b1 p0 p1 := by
  unfold ry ru; rw [cr_tq, cr_tq]
theorem off_tq {P : Nat → Int × Int} {n : Nat} {p : Int × Int} (h : Off P n p) : Off (fun k => tq (P k)) n (tq p) := by
  intro k hk
  have := h k hk
  unfold tq
  simp only
  rw [cr_tq, bx_tq]
  exact this
theorem rays_tq {P : Nat → Int × Int} {n : Nat} {p : Int × Int} (h : Off P n p) : rays (fun k => tq (P k)) n (tq p) = rays P n p := by
  rw [rays_up h]
  unfold rays raysU tq
  exact sumT_congr fun k _ => ry_tq _ _ _ _ _ _
theorem cr_mv (a b c d e f x y : Int) : cr (a + x) (b + y) (c + x) (d + y) (e + x) (f + y) = cr a b c d e f := by unfold cr; grind
theorem bx_mv {a b c d e f x y : Int} : bx (a + x) (b + y) (c + x) (d + y) (e + x) (f + y) ↔ bx a b c d e f := by unfold bx bt; omega
def tv (x y : Int) (p : Int × Int) : Int × Int := (p.1 + x, p.2 + y)
theorem off_tv {P : Nat → Int × Int} {n : Nat} {p : Int × Int} (x y : Int) (h : Off P n p) : Off (fun k => tv x y (P k)) n (tv x y p) := by
  intro k hk
  have := h k hk
  unfold tv
  simp only
  rw [cr_mv, bx_mv]
  exact this
theorem rays_tv (P : Nat → Int × Int) (n : Nat) (p : Int × Int) (x y : Int) : rays (fun k => tv x y (P k)) n (tv x y p) = rays P n p := by
  unfold rays tv
  refine sumT_congr fun k _ => ?_
  unfold ry
  simp only
  rw [cr_mv, cr_mv]
  simp only [Int.add_le_add_iff_right, Int.add_lt_add_iff_right]

/- The other direction. -/
theorem cr_sw (a b c d e f : Int) : cr c d a b e f = -cr a b c d e f := by unfold cr; grind
theorem ry_sw (a0 a1 b0 b1 p0 p1 : Int) : ry b0 b1 a0 a1 p0 p1 = -ry a0 a1 b0 b1 p0 p1 := by
  unfold ry
  by_cases h1 : a1 ≤ p1 ∧ p1 < b1 ∧ cr a0 a1 b0 b1 p0 p1 < 0
  · rw [if_neg (by omega), if_pos h1, if_pos h1]
  · rw [if_neg h1]
    by_cases h2 : b1 ≤ p1 ∧ p1 < a1 ∧ cr b0 b1 a0 a1 p0 p1 < 0
    · rw [if_pos h2, if_neg h1, if_pos h2]; rfl
    · rw [if_neg h2, if_neg h1, if_neg h2]; rfl

/- Beside the box, nothing passes. -/
theorem ry_bd (a0 a1 b0 b1 p0 p1 : Int) : -1 ≤ ry a0 a1 b0 b1 p0 p1 ∧ ry a0 a1 b0 b1 p0 p1 ≤ 1 := by
  unfold ry; split
  · omega
  · split <;> omega
theorem rays_bd (P : Nat → Int × Int) (n : Nat) (p : Int × Int) : -n ≤ rays P n p ∧ rays P n p ≤ n := by
  have : ∀ m : Nat, -(m : Int) ≤ sumT (fun k => ry (P k).1 (P k).2 (P (nx n k)).1 (P (nx n k)).2 p.1 p.2) m ∧ sumT (fun k => ry (P k).1 (P k).2 (P (nx n k)).1 (P (nx n k)).2 p.1 p.2) m ≤ m := by
    intro m
    induction m with
    | zero => simp [sumT]
    | succ m ih =>
      have := ry_bd (P m).1 (P m).2 (P (nx n m)).1 (P (nx n m)).2 p.1 p.2
      rw [sumT]; omega
  exact this n
theorem ry_zero {a0 a1 b0 b1 p0 p1 : Int} (h : (p1 < a1 ∧ p1 < b1) ∨ (a1 ≤ p1 ∧ b1 ≤ p1)) : ry a0 a1 b0 b1 p0 p1 = 0 := by
  unfold ry; rw [if_neg (by omega), if_neg (by omega)]
theorem cr_left {a0 a1 b0 b1 p0 p1 : Int} (h : p0 ≤ a0 ∧ p0 ≤ b0) (k : a1 ≤ p1 ∧ p1 ≤ b1) : 0 ≤ cr a0 a1 b0 b1 p0 p1 := by
  have h1 := Int.mul_nonneg (show 0 ≤ a0 - p0 by omega) (show 0 ≤ b1 - p1 by omega)
  have h2 := Int.mul_nonneg (show 0 ≤ b0 - p0 by omega) (show 0 ≤ p1 - a1 by omega)
  have : cr a0 a1 b0 b1 p0 p1 = (a0 - p0) * (b1 - p1) + (b0 - p0) * (p1 - a1) := by unfold cr; grind
  omega
theorem ry_left {a0 a1 b0 b1 p0 p1 : Int} (h : p0 ≤ a0 ∧ p0 ≤ b0) : ry a0 a1 b0 b1 p0 p1 = 0 := by
  unfold ry
  rw [if_neg, if_neg]
  · intro ⟨h1, h2, h3⟩
    have := cr_left (p0 := p0) (p1 := p1) ⟨h.2, h.1⟩ ⟨h1, Int.le_of_lt h2⟩
    omega
  · intro ⟨h1, h2, h3⟩
    have := cr_left (p0 := p0) (p1 := p1) h ⟨h1, Int.le_of_lt h2⟩
    omega
def lv (x1 p1 : Int) : Int := if p1 < x1 then 1 else 0
theorem cr_right {a0 a1 b0 b1 p0 p1 : Int} (h : a0 < p0 ∧ b0 < p0) (k : a1 ≤ p1 ∧ p1 < b1) : cr a0 a1 b0 b1 p0 p1 < 0 := by
  have h1 := Int.mul_pos (show 0 < p0 - a0 by omega) (show 0 < b1 - p1 by omega)
  have h2 := Int.mul_nonneg (show 0 ≤ p0 - b0 by omega) (show 0 ≤ p1 - a1 by omega)
  have : cr a0 a1 b0 b1 p0 p1 = -((p0 - a0) * (b1 - p1) + (p0 - b0) * (p1 - a1)) := by unfold cr; grind
  omega
theorem ry_right {a0 a1 b0 b1 p0 p1 : Int} (h : a0 < p0 ∧ b0 < p0) : ry a0 a1 b0 b1 p0 p1 = lv b1 p1 - lv a1 p1 := by
  unfold ry lv
  by_cases h1 : a1 ≤ p1 ∧ p1 < b1
  · rw [if_pos ⟨h1.1, h1.2, cr_right h h1⟩, if_pos h1.2, if_neg (by omega)]; rfl
  · rw [if_neg (by omega)]
    by_cases h2 : b1 ≤ p1 ∧ p1 < a1
    · rw [if_pos ⟨h2.1, h2.2, cr_right ⟨h.2, h.1⟩ h2⟩, if_neg (by omega), if_pos h2.2]; rfl
    · rw [if_neg (by omega)]; split <;> split <;> omega
theorem nx_lt {n k : Nat} (h : k < n) : nx n k < n := by unfold nx; split <;> omega
/-- What lies beside the box of a ring: nothing is on it, and the rays are nothing. -/
theorem beside {P : Nat → Int × Int} {n : Nat} {p : Int × Int} (h : (∀ k, k < n → p.1 < (P k).1) ∨ (∀ k, k < n → (P k).1 < p.1) ∨ (∀ k, k < n → p.2 < (P k).2) ∨ (∀ k, k < n → (P k).2 < p.2)) : Off P n p ∧ rays P n p = 0 := by
  constructor
  · rintro k hk ⟨-, h2⟩
    have hn := nx_lt hk
    unfold bx bt at h2
    rcases h with h | h | h | h <;> have h3 := h k hk <;> have h4 := h _ hn <;> omega
  · unfold rays
    rcases h with h | h | h | h
    · exact sumT_zero fun k hk => ry_left ⟨Int.le_of_lt (h k hk), Int.le_of_lt (h _ (nx_lt hk))⟩
    · rw [sumT_congr (g := fun k => lv (P (nx n k)).2 p.2 - lv (P k).2 p.2) (fun k hk => ry_right ⟨h k hk, h _ (nx_lt hk)⟩), sumT_sub, sumT_nx (fun k => lv (P k).2 p.2)]; omega
    · exact sumT_zero fun k hk => ry_zero (.inl ⟨h k hk, h _ (nx_lt hk)⟩)
    · exact sumT_zero fun k hk => ry_zero (.inr ⟨Int.le_of_lt (h k hk), Int.le_of_lt (h _ (nx_lt hk))⟩)
end Go.Proofs.Ytmldgjhecoeldaa

namespace Go.Proofs.Ytmldgjhecoeldaa
open Geo

/-- Columns from left to right, each with a lower and an upper point. -/
structure Mono (m : Nat) (X L H : Nat → Int) : Prop where
  two : 2 ≤ m
  inc : ∀ k, k + 1 < m → X k < X (k + 1)
  lh : ∀ k, k < m → L k < H k
/-- The points of the ring: the lower ones, and then the upper ones from right to left. -/
def mp (m : Nat) (X L H : Nat → Int) (i : Nat) : Int × Int := if i < m then (X i, L i) else (X (2 * m - 1 - i), H (2 * m - 1 - i))

theorem Mono.lt {m : Nat} {X L H : Nat → Int} (M : Mono m X L H) {i : Nat} : ∀ {j : Nat}, i < j → j < m → X i < X j := by
  intro j
  induction j with
  | zero => intro h; omega
  | succ j ih =>
    intro h hj
    have h1 := M.inc j hj
    by_cases e : i = j
    · subst e; exact h1
    · exact Int.lt_trans (ih (by omega) (by omega)) h1
theorem Mono.le {m : Nat} {X L H : Nat → Int} (M : Mono m X L H) {i j : Nat} (h : i ≤ j) (hj : j < m) : X i ≤ X j := by
  by_cases e : i = j
  · subst e; exact Int.le_refl _
  · exact Int.le_of_lt (M.lt (by omega) hj)

/-- A sum along the ring: the columns, and the two ends. -/
theorem ring_sum {m : Nat} (hm : 2 ≤ m) (X L H : Nat → Int) (F : Int → Int → Int → Int → Int) :
    sumT (fun k => F (mp m X L H k).1 (mp m X L H k).2 (mp m X L H (nx (2 * m) k)).1 (mp m X L H (nx (2 * m) k)).2) (2 * m) =
      sumT (fun k => F (X k) (L k) (X (k + 1)) (L (k + 1)) + F (X (k + 1)) (H (k + 1)) (X k) (H k)) (m - 1) + F (X (m - 1)) (L (m - 1)) (X (m - 1)) (H (m - 1)) + F (X 0) (H 0) (X 0) (L 0) := by
  obtain ⟨n, rfl⟩ : ∃ n, m = n + 1 := ⟨m - 1, by omega⟩
  rw [show 2 * (n + 1) = (n + 1) + (n + 1) by omega, sumT_split, sumT, sumT, sumT_add, Nat.add_sub_cancel]
  have e1 : sumT (fun k => F (mp (n + 1) X L H k).1 (mp (n + 1) X L H k).2 (mp (n + 1) X L H (nx (n + 1 + (n + 1)) k)).1 (mp (n + 1) X L H (nx (n + 1 + (n + 1)) k)).2) n = sumT (fun k => F (X k) (L k) (X (k + 1)) (L (k + 1))) n := by
    refine sumT_congr fun k hk => ?_
    unfold nx mp
    rw [if_neg (show ¬ k + 1 = n + 1 + (n + 1) by omega), if_pos (show k < n + 1 by omega), if_pos (show k + 1 < n + 1 by omega)]
  have e2 : sumT (fun k => F (mp (n + 1) X L H (n + 1 + k)).1 (mp (n + 1) X L H (n + 1 + k)).2 (mp (n + 1) X L H (nx (n + 1 + (n + 1)) (n + 1 + k))).1 (mp (n + 1) X L H (nx (n + 1 + (n + 1)) (n + 1 + k))).2) n = sumT (fun k => F (X (k + 1)) (H (k + 1)) (X k) (H k)) n := by
    rw [← sumT_flip]
    refine sumT_congr fun k hk => ?_
    unfold nx mp
    rw [if_neg (show ¬ n + 1 + (n - 1 - k) + 1 = n + 1 + (n + 1) by omega), if_neg (show ¬ n + 1 + (n - 1 - k) < n + 1 by omega), if_neg (show ¬ n + 1 + (n - 1 - k) + 1 < n + 1 by omega)]
    rw [show 2 * (n + 1) - 1 - (n + 1 + (n - 1 - k)) = k + 1 by omega, show 2 * (n + 1) - 1 - (n + 1 + (n - 1 - k) + 1) = k by omega]
  rw [e1, e2]
  have e3 : F (mp (n + 1) X L H n).1 (mp (n + 1) X L H n).2 (mp (n + 1) X L H (nx (n + 1 + (n + 1)) n)).1 (mp (n + 1) X L H (nx (n + 1 + (n + 1)) n)).2 = F (X n) (L n) (X n) (H n) := by
    unfold nx mp
    rw [if_neg (show ¬ n + 1 = n + 1 + (n + 1) by omega), if_pos (show n < n + 1 by omega), if_neg (show ¬ n + 1 < n + 1 by omega), show 2 * (n + 1) - 1 - (n + 1) = n by omega]
  have e4 : F (mp (n + 1) X L H (n + 1 + n)).1 (mp (n + 1) X L H (n + 1 + n)).2 (mp (n + 1) X L H (nx (n + 1 + (n + 1)) (n + 1 + n))).1 (mp (n + 1) X L H (nx (n + 1 + (n + 1)) (n + 1 + n))).2 = F (X 0) (H 0) (X 0) (L 0) := by
    unfold nx mp
    rw [if_pos (show n + 1 + n + 1 = n + 1 + (n + 1) by omega), if_neg (show ¬ n + 1 + n < n + 1 by omega), if_pos (show 0 < n + 1 by omega), show 2 * (n + 1) - 1 - (n + 1 + n) = 0 by omega]
  rw [e3, e4]
  omega

def cx (a b c d : Int) : Int := a * d - b * c
/-- Twice the area. -/
def area (P : Nat → Int × Int) (n : Nat) : Int := sumT (fun k => cx (P k).1 (P k).2 (P (nx n k)).1 (P (nx n k)).2) n
def trap (X L H : Nat → Int) (k : Nat) : Int := (X (k + 1) - X k) * ((H k + H (k + 1)) - (L k + L (k + 1)))
theorem sumT_tele (g : Nat → Int) : ∀ n, sumT (fun k => g (k + 1) - g k) n = g n - g 0 := by
  intro n
  induction n with
  | zero => simp [sumT]
  | succ n ih => rw [sumT, ih]; omega
theorem area_mono {m : Nat} (hm : 2 ≤ m) (X L H : Nat → Int) : area (mp m X L H) (2 * m) = sumT (trap X L H) (m - 1) := by
  unfold area
  rw [ring_sum hm X L H cx, sumT_congr (g := fun k => trap X L H k - (X (k + 1) * (H (k + 1) - L (k + 1)) - X k * (H k - L k))) (fun k _ => by unfold cx trap; grind), sumT_sub, sumT_tele (fun k => X k * (H k - L k))]
  unfold cx
  grind
theorem sumT_pos {f : Nat → Int} {n : Nat} (hn : 0 < n) (h : ∀ k, k < n → 0 < f k) : 0 < sumT f n := by
  induction n with
  | zero => omega
  | succ n ih =>
    have h1 := h n (by omega)
    rw [sumT]
    by_cases e : n = 0
    · subst e; simp only [sumT]; omega
    · have := ih (by omega) (fun k hk => h k (by omega)); omega
theorem Mono.trap_pos {m : Nat} {X L H : Nat → Int} (M : Mono m X L H) {k : Nat} (hk : k + 1 < m) : 0 < trap X L H k := by
  have h1 := M.inc k hk
  have h2 := M.lh k (by omega)
  have h3 := M.lh (k + 1) hk
  exact Int.mul_pos (by omega) (by omega)
theorem Mono.area_pos {m : Nat} {X L H : Nat → Int} (M : Mono m X L H) : 0 < area (mp m X L H) (2 * m) := by
  have h2 := M.two
  rw [area_mono h2]
  exact sumT_pos (by omega) fun k hk => M.trap_pos (by omega)

/- Rays. -/
/-- Where a point is, in a column: below the lower line, and below the upper one. -/
def cl (X L : Nat → Int) (k : Nat) (p : Int × Int) : Int := cr (X k) (L k) (X (k + 1)) (L (k + 1)) p.1 p.2
def neg (x : Int) : Int := if x < 0 then 1 else 0
theorem ru_none {a0 a1 b0 b1 p0 p1 : Int} (h : (p0 < a0 ∧ p0 < b0) ∨ (a0 ≤ p0 ∧ b0 ≤ p0)) : ru a0 a1 b0 b1 p0 p1 = 0 := by
  unfold ru; rw [if_neg (by omega), if_neg (by omega)]
theorem ru_low {a0 a1 b0 b1 p0 p1 : Int} (h : a0 ≤ p0 ∧ p0 < b0) : ru a0 a1 b0 b1 p0 p1 = neg (cr a0 a1 b0 b1 p0 p1) := by
  unfold ru neg
  by_cases c : cr a0 a1 b0 b1 p0 p1 < 0
  · rw [if_pos ⟨h.1, h.2, c⟩, if_pos c]
  · rw [if_neg (by omega), if_neg (by omega), if_neg c]
theorem ru_high {a0 a1 b0 b1 p0 p1 : Int} (h : b0 ≤ p0 ∧ p0 < a0) : ru a0 a1 b0 b1 p0 p1 = -neg (cr b0 b1 a0 a1 p0 p1) := by
  unfold ru neg
  rw [if_neg (by omega)]
  by_cases c : cr b0 b1 a0 a1 p0 p1 < 0
  · rw [if_pos ⟨h.1, h.2, c⟩, if_pos c]
  · rw [if_neg (by omega), if_neg c]; rfl
/-- The rays of a point in a column. -/
theorem Mono.ray_in {m : Nat} {X L H : Nat → Int} (M : Mono m X L H) {k : Nat} (hk : k + 1 < m) {p : Int × Int} (h : X k ≤ p.1 ∧ p.1 < X (k + 1)) :
    raysU (mp m X L H) (2 * m) p = neg (cl X L k p) - neg (cl X H k p) := by
  unfold raysU
  rw [ring_sum M.two X L H (fun a b c d => ru a b c d p.1 p.2), ru_none (by omega), ru_none (by omega)]
  rw [sumT_one (i := k) (by omega)]
  · rw [ru_low h, ru_high h]; unfold cl; omega
  · intro j hj hne
    rcases Nat.lt_or_ge j k with c | c
    · have := M.le (i := j + 1) (j := k) (by omega) (by omega)
      have := M.inc j (by omega)
      rw [ru_none (by omega), ru_none (by omega)]; rfl
    · have := M.le (i := k + 1) (j := j) (by omega) (by omega)
      have := M.inc j (by omega)
      rw [ru_none (by omega), ru_none (by omega)]; rfl
theorem Mono.ray_out {m : Nat} {X L H : Nat → Int} (M : Mono m X L H) {p : Int × Int} (h : p.1 < X 0 ∨ X (m - 1) ≤ p.1) : raysU (mp m X L H) (2 * m) p = 0 := by
  have h2 := M.two
  unfold raysU
  rw [ring_sum h2 X L H (fun a b c d => ru a b c d p.1 p.2), ru_none (by omega), ru_none (by omega), sumT_zero]
  · rfl
  · intro j hj
    have := M.inc j (by omega)
    have := M.le (i := 0) (j := j) (by omega) (by omega)
    have := M.le (i := j + 1) (j := m - 1) (by omega) (by omega)
    rw [ru_none (by omega), ru_none (by omega)]; rfl
/-- The lower line is below the upper one. -/
theorem Mono.cl_lt {m : Nat} {X L H : Nat → Int} (M : Mono m X L H) {k : Nat} (hk : k + 1 < m) {p : Int × Int} (h : X k ≤ p.1 ∧ p.1 ≤ X (k + 1)) : cl X H k p < cl X L k p := by
  have h1 := M.inc k hk
  have h2 := M.lh k (by omega)
  have h3 := M.lh (k + 1) hk
  have e : cl X L k p - cl X H k p = (X (k + 1) - p.1) * (H k - L k) + (p.1 - X k) * (H (k + 1) - L (k + 1)) := by unfold cl cr; grind
  have a1 := Int.mul_nonneg (show 0 ≤ X (k + 1) - p.1 by omega) (show 0 ≤ H k - L k by omega)
  have a2 := Int.mul_nonneg (show 0 ≤ p.1 - X k by omega) (show 0 ≤ H (k + 1) - L (k + 1) by omega)
  rcases Int.lt_or_le (X k) p.1 with c | c
  · have := Int.mul_pos (show 0 < p.1 - X k by omega) (show 0 < H (k + 1) - L (k + 1) by omega); omega
  · have := Int.mul_pos (show 0 < X (k + 1) - p.1 by omega) (show 0 < H k - L k by omega); omega
/-- A column that has a number. -/
theorem col_of {m : Nat} {X : Nat → Int} {x : Int} (h0 : X 0 ≤ x) : ∀ {n : Nat}, n < m → x < X n → ∃ k, k + 1 ≤ n ∧ X k ≤ x ∧ x < X (k + 1) := by
  intro n
  induction n with
  | zero => intro _ h; omega
  | succ n ih =>
    intro hn h
    rcases Int.lt_or_le x (X n) with c | c
    · obtain ⟨k, h1, h2, h3⟩ := ih (by omega) c; exact ⟨k, by omega, h2, h3⟩
    · exact ⟨n, by omega, c, h⟩
/-- The rays of a point that is not on the ring are nothing, or once downwards. -/
theorem Mono.rays_of {m : Nat} {X L H : Nat → Int} (M : Mono m X L H) (p : Int × Int) : raysU (mp m X L H) (2 * m) p = 0 ∨ raysU (mp m X L H) (2 * m) p = -1 := by
  have h2 := M.two
  by_cases h : p.1 < X 0 ∨ X (m - 1) ≤ p.1
  · exact .inl (M.ray_out h)
  · obtain ⟨k, h3, h4, h5⟩ := col_of (X := X) (m := m) (n := m - 1) (x := p.1) (by omega) (by omega) (by omega)
    rw [M.ray_in (by omega) ⟨h4, h5⟩]
    have := M.cl_lt (k := k) (by omega) (p := p) ⟨h4, by omega⟩
    unfold neg
    split <;> split <;> omega
end Go.Proofs.Ytmldgjhecoeldaa

namespace Go.Proofs.Ytmldgjhecoeldaa
open Geo

theorem btw_line {dx dy t u : Int} (h : dx * u = dy * t) (hd : 0 < dx) (h0 : 0 ≤ t) (h1 : t ≤ dx) : (0 ≤ dy → 0 ≤ u ∧ u ≤ dy) ∧ (dy ≤ 0 → dy ≤ u ∧ u ≤ 0) := by
  have key : ∀ x : Int, x < 0 → dx * x < 0 := fun x hx => Int.mul_neg_of_pos_of_neg hd hx
  have e : dx * (u - dy) = dy * t - dy * dx := by rw [Int.mul_sub, h, Int.mul_comm dx dy]
  have e2 : dy * t - dy * dx = -(dy * (dx - t)) := by grind
  have e3 : dx * (dy - u) = dy * (dx - t) := by grind
  constructor
  · intro hy
    have a1 := Int.mul_nonneg hy h0
    have a2 := Int.mul_nonneg hy (show 0 ≤ dx - t by omega)
    constructor
    · rcases Int.lt_or_le u 0 with c | c
      · have := key u c; omega
      · exact c
    · rcases Int.lt_or_le dy u with c | c
      · have := key (dy - u) (by omega); omega
      · exact c
  · intro hy
    have a1 := Int.mul_nonneg (show 0 ≤ -dy by omega) h0
    have a2 := Int.mul_nonneg (show 0 ≤ -dy by omega) (show 0 ≤ dx - t by omega)
    rw [Int.neg_mul] at a1 a2
    constructor
    · rcases Int.lt_or_le u dy with c | c
      · have := key (u - dy) (by omega); omega
      · exact c
    · rcases Int.lt_or_le 0 u with c | c
      · have := Int.mul_pos hd c; omega
      · exact c
theorem bx_of {a b c d e f : Int} (h : cr a b c d e f = 0) (hac : a < c) (k : a ≤ e ∧ e ≤ c) : bx a b c d e f := by
  have h' : (c - a) * (f - b) = (d - b) * (e - a) := by unfold cr at h; omega
  have := btw_line h' (by omega) (by omega) (by omega)
  refine ⟨.inl k, ?_⟩
  unfold bt
  rcases Int.le_total 0 (d - b) with q | q
  · have := this.1 q; omega
  · have := this.2 q; omega

section
variable {m : Nat} {X L H : Nat → Int}
theorem seg_low {k : Nat} (hk : k + 1 < m) : mp m X L H k = (X k, L k) ∧ mp m X L H (nx (2 * m) k) = (X (k + 1), L (k + 1)) := by
  unfold nx mp
  rw [if_neg (show ¬ k + 1 = 2 * m by omega), if_pos (show k < m by omega), if_pos hk]
  exact ⟨rfl, rfl⟩
theorem seg_high {k : Nat} (hk : k + 1 < m) : mp m X L H (2 * m - 2 - k) = (X (k + 1), H (k + 1)) ∧ mp m X L H (nx (2 * m) (2 * m - 2 - k)) = (X k, H k) := by
  unfold nx mp
  rw [if_neg (show ¬ 2 * m - 2 - k + 1 = 2 * m by omega), if_neg (show ¬ 2 * m - 2 - k < m by omega), if_neg (by omega), show 2 * m - 1 - (2 * m - 2 - k) = k + 1 by omega, show 2 * m - 1 - (2 * m - 2 - k + 1) = k by omega]
  exact ⟨rfl, rfl⟩
theorem seg_right (hm : 2 ≤ m) : mp m X L H (m - 1) = (X (m - 1), L (m - 1)) ∧ mp m X L H (nx (2 * m) (m - 1)) = (X (m - 1), H (m - 1)) := by
  unfold nx mp
  rw [if_neg (show ¬ m - 1 + 1 = 2 * m by omega), if_pos (show m - 1 < m by omega), if_neg (by omega), show 2 * m - 1 - (m - 1 + 1) = m - 1 by omega]
  exact ⟨rfl, rfl⟩
theorem seg_left (hm : 2 ≤ m) : mp m X L H (2 * m - 1) = (X 0, H 0) ∧ mp m X L H (nx (2 * m) (2 * m - 1)) = (X 0, L 0) := by
  unfold nx mp
  rw [if_pos (show 2 * m - 1 + 1 = 2 * m by omega), if_neg (show ¬ 2 * m - 1 < m by omega), if_pos (by omega), show 2 * m - 1 - (2 * m - 1) = 0 by omega]
  exact ⟨rfl, rfl⟩
/-- What holds of all segments. -/
theorem each {Q : Int × Int → Int × Int → Prop} (hm : 2 ≤ m) (h1 : ∀ k, k + 1 < m → Q (X k, L k) (X (k + 1), L (k + 1))) (h2 : ∀ k, k + 1 < m → Q (X (k + 1), H (k + 1)) (X k, H k)) (h3 : Q (X (m - 1), L (m - 1)) (X (m - 1), H (m - 1))) (h4 : Q (X 0, H 0) (X 0, L 0)) :
    ∀ k, k < 2 * m → Q (mp m X L H k) (mp m X L H (nx (2 * m) k)) := by
  intro k hk
  rcases (show k + 1 < m ∨ k = m - 1 ∨ (m ≤ k ∧ k < 2 * m - 1) ∨ k = 2 * m - 1 by omega) with c | rfl | c | rfl
  · rw [(seg_low c).1, (seg_low c).2]; exact h1 k c
  · rw [(seg_right hm).1, (seg_right hm).2]; exact h3
  · obtain ⟨j, hj, rfl⟩ : ∃ j, j + 1 < m ∧ k = 2 * m - 2 - j := ⟨2 * m - 2 - k, by omega, by omega⟩
    rw [(seg_high hj).1, (seg_high hj).2]; exact h2 j hj
  · rw [(seg_left hm).1, (seg_left hm).2]; exact h4
end

/-- A point is on a segment. -/
def OnS (a b p : Int × Int) : Prop := cr a.1 a.2 b.1 b.2 p.1 p.2 = 0 ∧ bx a.1 a.2 b.1 b.2 p.1 p.2
theorem off_iff {P : Nat → Int × Int} {n : Nat} {p : Int × Int} : Off P n p ↔ ∀ k, k < n → ¬ OnS (P k) (P (nx n k)) p := Iff.rfl

theorem up_on {x l h p0 p1 : Int} : (OnS (x, l) (x, h) (p0, p1) ↔ p0 = x ∧ bt p1 l h) ∧ (OnS (x, h) (x, l) (p0, p1) ↔ p0 = x ∧ bt p1 l h) := by
  unfold OnS bx cr bt
  simp only [Int.sub_self, Int.zero_mul]
  constructor
  · constructor
    · rintro ⟨-, h1, h2⟩; omega
    · rintro ⟨rfl, h2⟩; refine ⟨by simp, by omega, by omega⟩
  · constructor
    · rintro ⟨-, h1, h2⟩; omega
    · rintro ⟨rfl, h2⟩; refine ⟨by simp, by omega, by omega⟩
theorem cr_start (a b c d f : Int) : cr a b c d a f = (c - a) * (f - b) := by unfold cr; rw [Int.sub_self, Int.mul_zero, Int.sub_zero]
theorem cr_stop (a b c d f : Int) : cr a b c d c f = (c - a) * (f - d) := by unfold cr; grind

section
variable {m : Nat} {X L H : Nat → Int}
/-- Between the ends, a point is on the ring if it is on one of the lines of its column. -/
theorem Mono.off_in (M : Mono m X L H) {k : Nat} (hk : k + 1 < m) {p : Int × Int} (h : X k ≤ p.1 ∧ p.1 < X (k + 1)) (h0 : X 0 < p.1) : Off (mp m X L H) (2 * m) p ↔ cl X L k p ≠ 0 ∧ cl X H k p ≠ 0 := by
  have h2 := M.two
  have hi := M.inc k hk
  constructor
  · intro hO
    constructor
    · intro hc
      have := hO k (by omega)
      rw [(seg_low hk).1, (seg_low hk).2] at this
      exact this ⟨hc, bx_of hc hi ⟨h.1, by omega⟩⟩
    · intro hc
      have := hO (2 * m - 2 - k) (by omega)
      rw [(seg_high hk).1, (seg_high hk).2] at this
      refine this ⟨by rw [cr_sw]; show -(cl X H k p) = 0; omega, ?_⟩
      have := bx_of (show cr (X k) (H k) (X (k + 1)) (H (k + 1)) p.1 p.2 = 0 from hc) hi ⟨h.1, by omega⟩
      unfold bx bt at *; simp only; omega
  · intro ⟨g1, g2⟩
    refine off_iff.2 (each (Q := fun a b => ¬ OnS a b p) h2 ?_ ?_ ?_ ?_)
    · rintro j hj ⟨e1, e2, -⟩
      unfold bt at e2
      simp only at e1 e2
      have hj' := M.inc j hj
      rcases Nat.lt_trichotomy j k with c | rfl | c
      · have := M.le (i := j + 1) (j := k) (by omega) (by omega)
        have e4 : p.1 = X k := by omega
        have e5 : p.1 = X (j + 1) := by omega
        have e3 : j + 1 = k := by
          rcases Nat.lt_or_ge (j + 1) k with c | c
          · have := M.lt c (by omega); omega
          · omega
        subst e3
        rw [e5, cr_stop] at e1
        refine g1 ?_
        unfold cl
        rw [e5, cr_start]
        rcases Int.mul_eq_zero.1 e1 with q | q
        · omega
        · rw [q, Int.mul_zero]
      · exact g1 e1
      · have := M.le (i := k + 1) (j := j) (by omega) (by omega); omega
    · rintro j hj ⟨e1, e2, -⟩
      unfold bt at e2
      simp only at e1 e2
      rw [cr_sw] at e1
      have hj' := M.inc j hj
      rcases Nat.lt_trichotomy j k with c | rfl | c
      · have := M.le (i := j + 1) (j := k) (by omega) (by omega)
        have e4 : p.1 = X k := by omega
        have e5 : p.1 = X (j + 1) := by omega
        have e3 : j + 1 = k := by
          rcases Nat.lt_or_ge (j + 1) k with c | c
          · have := M.lt c (by omega); omega
          · omega
        subst e3
        rw [e5, cr_stop] at e1
        refine g2 ?_
        unfold cl
        rw [e5, cr_start]
        rcases Int.mul_eq_zero.1 (show (X (j + 1) - X j) * (p.2 - H (j + 1)) = 0 by omega) with q | q
        · omega
        · rw [q, Int.mul_zero]
      · exact g2 (show cr _ _ _ _ _ _ = 0 by omega)
      · have := M.le (i := k + 1) (j := j) (by omega) (by omega); omega
    · intro e
      have e1 := (up_on (x := X (m - 1)) (l := L (m - 1)) (h := H (m - 1)) (p0 := p.1) (p1 := p.2)).1.1 e
      have := M.le (i := k + 1) (j := m - 1) (by omega) (by omega)
      omega
    · intro e
      have e1 := (up_on (x := X 0) (l := L 0) (h := H 0) (p0 := p.1) (p1 := p.2)).2.1 e
      omega
theorem Mono.off_left (M : Mono m X L H) {p : Int × Int} (h0 : p.1 = X 0) : Off (mp m X L H) (2 * m) p ↔ ¬ (L 0 ≤ p.2 ∧ p.2 ≤ H 0) := by
  have h2 := M.two
  have hi := M.lh 0 (by omega)
  constructor
  · intro hO hc
    have := hO (2 * m - 1) (by omega)
    rw [(seg_left h2).1, (seg_left h2).2] at this
    exact this ((up_on (x := X 0) (l := L 0) (h := H 0) (p0 := p.1) (p1 := p.2)).2.2 ⟨h0, .inl hc⟩)
  · intro hc
    have hx := M.inc 0 (by omega)
    refine off_iff.2 (each (Q := fun a b => ¬ OnS a b p) h2 ?_ ?_ ?_ ?_)
    · rintro j hj ⟨e1, e2, -⟩
      unfold bt at e2
      simp only at e1 e2
      have hj' := M.inc j hj
      have := M.le (i := 0) (j := j) (by omega) (by omega)
      obtain rfl : j = 0 := by
        rcases Nat.eq_zero_or_pos j with c | c
        · exact c
        · have := M.lt c (by omega); omega
      rw [h0, cr_start] at e1
      rcases Int.mul_eq_zero.1 e1 with q | q <;> omega
    · rintro j hj ⟨e1, e2, -⟩
      unfold bt at e2
      simp only at e1 e2
      have hj' := M.inc j hj
      have := M.le (i := 0) (j := j) (by omega) (by omega)
      obtain rfl : j = 0 := by
        rcases Nat.eq_zero_or_pos j with c | c
        · exact c
        · have := M.lt c (by omega); omega
      rw [h0, cr_stop] at e1
      rcases Int.mul_eq_zero.1 e1 with q | q <;> omega
    · intro e
      have e1 := (up_on (x := X (m - 1)) (l := L (m - 1)) (h := H (m - 1)) (p0 := p.1) (p1 := p.2)).1.1 e
      have := M.lt (i := 0) (j := m - 1) (by omega) (by omega)
      omega
    · intro e
      have e1 := (up_on (x := X 0) (l := L 0) (h := H 0) (p0 := p.1) (p1 := p.2)).2.1 e
      unfold bt at e1
      omega
theorem Mono.off_right (M : Mono m X L H) {p : Int × Int} (h0 : p.1 = X (m - 1)) : Off (mp m X L H) (2 * m) p ↔ ¬ (L (m - 1) ≤ p.2 ∧ p.2 ≤ H (m - 1)) := by
  have h2 := M.two
  have hi := M.lh (m - 1) (by omega)
  constructor
  · intro hO hc
    have := hO (m - 1) (by omega)
    rw [(seg_right h2).1, (seg_right h2).2] at this
    exact this ((up_on (x := X (m - 1)) (l := L (m - 1)) (h := H (m - 1)) (p0 := p.1) (p1 := p.2)).1.2 ⟨h0, .inl hc⟩)
  · intro hc
    refine off_iff.2 (each (Q := fun a b => ¬ OnS a b p) h2 ?_ ?_ ?_ ?_)
    · rintro j hj ⟨e1, e2, -⟩
      unfold bt at e2
      simp only at e1 e2
      have hj' := M.inc j hj
      have := M.le (i := j + 1) (j := m - 1) (by omega) (by omega)
      have e3 : j + 1 = m - 1 := by
        rcases Nat.lt_or_ge (j + 1) (m - 1) with c | c
        · have := M.lt c (by omega); omega
        · omega
      rw [e3] at e1 hj'
      rw [h0, cr_stop] at e1
      rcases Int.mul_eq_zero.1 e1 with q | q <;> omega
    · rintro j hj ⟨e1, e2, -⟩
      unfold bt at e2
      simp only at e1 e2
      have hj' := M.inc j hj
      have := M.le (i := j + 1) (j := m - 1) (by omega) (by omega)
      have e3 : j + 1 = m - 1 := by
        rcases Nat.lt_or_ge (j + 1) (m - 1) with c | c
        · have := M.lt c (by omega); omega
        · omega
      rw [e3] at e1 hj'
      rw [h0, cr_start] at e1
      rcases Int.mul_eq_zero.1 e1 with q | q <;> omega
    · intro e
      have e1 := (up_on (x := X (m - 1)) (l := L (m - 1)) (h := H (m - 1)) (p0 := p.1) (p1 := p.2)).1.1 e
      unfold bt at e1
      omega
    · intro e
      have e1 := (up_on (x := X 0) (l := L 0) (h := H 0) (p0 := p.1) (p1 := p.2)).2.1 e
      have := M.lt (i := 0) (j := m - 1) (by omega) (by omega)
      omega
theorem mp_x (M : Mono m X L H) {k : Nat} (hk : k < 2 * m) : X 0 ≤ (mp m X L H k).1 ∧ (mp m X L H k).1 ≤ X (m - 1) := by
  unfold mp
  split
  · exact ⟨M.le (by omega) (by omega), M.le (by omega) (by omega)⟩
  · exact ⟨M.le (by omega) (by omega), M.le (by omega) (by omega)⟩

open Classical in
/-- What a point counts: 1 on the ring, 2 in it. -/
noncomputable def wt (P : Nat → Int × Int) (n : Nat) (p : Int × Int) : Int := if Off P n p then (if rays P n p = 0 then 0 else 2) else 1

theorem Mono.wt_out (M : Mono m X L H) {p : Int × Int} (h : p.1 < X 0 ∨ X (m - 1) < p.1) : wt (mp m X L H) (2 * m) p = 0 := by
  have h2 := M.two
  have := beside (P := mp m X L H) (n := 2 * m) (p := p) (by
    rcases h with h | h
    · exact .inl fun k hk => by have := mp_x M hk; omega
    · exact .inr (.inl fun k hk => by have := mp_x M hk; omega))
  unfold wt
  rw [if_pos this.1, if_pos this.2]
theorem Mono.wt_in (M : Mono m X L H) {k : Nat} (hk : k + 1 < m) {p : Int × Int} (h : X k ≤ p.1 ∧ p.1 < X (k + 1)) (h0 : X 0 < p.1) : wt (mp m X L H) (2 * m) p = (cl X L k p).sign - (cl X H k p).sign := by
  have hlt := M.cl_lt hk (p := p) ⟨h.1, by omega⟩
  unfold wt
  by_cases hO : Off (mp m X L H) (2 * m) p
  · rw [if_pos hO, rays_up hO, M.ray_in hk h]
    have := (M.off_in hk h h0).1 hO
    rcases Int.lt_or_gt_of_ne this.1 with c | c <;> rcases Int.lt_or_gt_of_ne this.2 with d | d
    · have e : neg (cl X L k p) - neg (cl X H k p) = 0 := by unfold neg; rw [if_pos c, if_pos d]; rfl
      rw [e, if_pos rfl, Int.sign_eq_neg_one_of_neg c, Int.sign_eq_neg_one_of_neg d]; rfl
    · omega
    · have e : neg (cl X L k p) - neg (cl X H k p) = -1 := by unfold neg; rw [if_neg (show ¬ cl X L k p < 0 by omega), if_pos d]; rfl
      rw [e, if_neg (by omega), Int.sign_eq_one_of_pos c, Int.sign_eq_neg_one_of_neg d]; rfl
    · have e : neg (cl X L k p) - neg (cl X H k p) = 0 := by unfold neg; rw [if_neg (show ¬ cl X L k p < 0 by omega), if_neg (show ¬ cl X H k p < 0 by omega)]; rfl
      rw [e, if_pos rfl, Int.sign_eq_one_of_pos c, Int.sign_eq_one_of_pos d]; rfl
  · rw [if_neg hO]
    have : cl X L k p = 0 ∨ cl X H k p = 0 := by
      refine Decidable.byContradiction fun hc => hO ((M.off_in hk h h0).2 ⟨fun e => hc (.inl e), fun e => hc (.inr e)⟩)
    rcases this with c | c
    · rw [c, Int.sign_eq_neg_one_of_neg (show cl X H k p < 0 by omega)]; rfl
    · rw [c, Int.sign_eq_one_of_pos (show 0 < cl X L k p by omega)]; rfl
open Classical in
theorem Mono.wt_left (M : Mono m X L H) {p : Int × Int} (h : p.1 = X 0) : wt (mp m X L H) (2 * m) p = if L 0 ≤ p.2 ∧ p.2 ≤ H 0 then 1 else 0 := by
  have h2 := M.two
  have hx : X 0 < X 1 := M.inc 0 (by omega)
  have hy := M.lh 0 (by omega)
  have hO := M.off_left h
  unfold wt
  by_cases c : L 0 ≤ p.2 ∧ p.2 ≤ H 0
  · rw [if_pos c, if_neg (fun h => hO.1 h c)]
  · rw [if_neg c, if_pos (hO.2 c), rays_up (hO.2 c), M.ray_in (k := 0) (by omega) ⟨by omega, by show p.1 < X 1; omega⟩]
    have e : ∀ Y : Nat → Int, cl X Y 0 p = (X 1 - X 0) * (p.2 - Y 0) := fun Y => by unfold cl; rw [h, cr_start]
    rw [e L, e H]
    have e0 : neg ((X 1 - X 0) * (p.2 - L 0)) - neg ((X 1 - X 0) * (p.2 - H 0)) = 0 := by
      unfold neg
      rcases (show p.2 < L 0 ∨ H 0 < p.2 by omega) with d | d
      · have a1 := Int.mul_neg_of_pos_of_neg (show 0 < X 1 - X 0 by omega) (show p.2 - L 0 < 0 by omega)
        have a2 := Int.mul_neg_of_pos_of_neg (show 0 < X 1 - X 0 by omega) (show p.2 - H 0 < 0 by omega)
        rw [if_pos a1, if_pos a2]; rfl
      · have a1 := Int.mul_pos (show 0 < X 1 - X 0 by omega) (show 0 < p.2 - L 0 by omega)
        have a2 := Int.mul_pos (show 0 < X 1 - X 0 by omega) (show 0 < p.2 - H 0 by omega)
        rw [if_neg (by omega), if_neg (by omega)]; rfl
    rw [e0, if_pos rfl]
open Classical in
theorem Mono.wt_right (M : Mono m X L H) {p : Int × Int} (h : p.1 = X (m - 1)) : wt (mp m X L H) (2 * m) p = if L (m - 1) ≤ p.2 ∧ p.2 ≤ H (m - 1) then 1 else 0 := by
  have hO := M.off_right h
  unfold wt
  by_cases c : L (m - 1) ≤ p.2 ∧ p.2 ≤ H (m - 1)
  · rw [if_pos c, if_neg (fun h => hO.1 h c)]
  · rw [if_neg c, if_pos (hO.2 c), rays_up (hO.2 c), M.ray_out (.inr (by omega)), if_pos rfl]
end
end Go.Proofs.Ytmldgjhecoeldaa

namespace Go.Proofs.Ytmldgjhecoeldaa
open Go.RowKit Go.Lib Geo

theorem reach_pos {A B C D a b c d m : Int} (h1 : D - C = A - B) (h2 : D * c - C * d = A * b - B * a) (hA : 0 ≤ A) (hB : B ≤ 0) (hC : C ≤ 0) (hD : 0 ≤ D) (hE : 0 < A - B) (ha : a ≤ m) (hb : b ≤ m) (hc : m + 1 ≤ c) (hd : m + 1 ≤ d) : False := by
  have p1 : 0 ≤ D * (c - (m + 1)) := Int.mul_nonneg hD (by omega)
  have p2 : 0 ≤ (-C) * (d - (m + 1)) := Int.mul_nonneg (by omega) (by omega)
  have p3 : 0 ≤ A * (m - b) := Int.mul_nonneg hA (by omega)
  have p4 : 0 ≤ (-B) * (m - a) := Int.mul_nonneg (by omega) (by omega)
  have e : D * (c - (m + 1)) + (-C) * (d - (m + 1)) + A * (m - b) + (-B) * (m - a) = D * c - C * d - (A * b - B * a) + (A - B) * m - (D - C) * m - (D - C) := by grind
  rw [h1, h2] at e
  omega
theorem reach {A B C D a b c d : Int} (h1 : D - C = A - B) (h2 : D * c - C * d = A * b - B * a) (hs1 : (0 ≤ A ∧ B ≤ 0) ∨ (A ≤ 0 ∧ 0 ≤ B)) (hs2 : (0 ≤ C ∧ D ≤ 0) ∨ (C ≤ 0 ∧ 0 ≤ D))
    (hne : ¬ (A = 0 ∧ B = 0 ∧ C = 0 ∧ D = 0)) : min c d ≤ max a b := by
  refine Int.not_lt.1 fun hlt => ?_
  rcases Int.lt_trichotomy (A - B) 0 with hE | hE | hE
  · exact reach_pos (A := -A) (B := -B) (C := -C) (D := -D) (a := a) (b := b) (c := c) (d := d) (m := max a b) (by omega) (by grind) (by omega) (by omega) (by omega) (by omega) (by omega) (by omega) (by omega) (by omega) (by omega)
  · exact hne (by omega)
  · exact reach_pos (m := max a b) h1 h2 (by omega) (by omega) (by omega) (by omega) hE (by omega) (by omega) (by omega) (by omega)
theorem opp_of {x y : Int} (h : x.sign * y.sign ≤ 0) : (0 ≤ x ∧ y ≤ 0) ∨ (x ≤ 0 ∧ 0 ≤ y) := by
  rcases Int.lt_trichotomy x 0 with hx | hx | hx <;> rcases Int.lt_trichotomy y 0 with hy | hy | hy
  · rw [Int.sign_eq_neg_one_of_neg hx, Int.sign_eq_neg_one_of_neg hy] at h; omega
  · omega
  · omega
  · omega
  · omega
  · omega
  · omega
  · omega
  · rw [Int.sign_eq_one_of_pos hx, Int.sign_eq_one_of_pos hy] at h; omega
/-- The boxes of two segments meet. -/
def bnear (a0 a1 b0 b1 c0 c1 d0 d1 : Int) : Prop := min a0 b0 ≤ max c0 d0 ∧ min c0 d0 ≤ max a0 b0 ∧ min a1 b1 ≤ max c1 d1 ∧ min c1 d1 ≤ max a1 b1
theorem bnear_cross {a0 a1 b0 b1 c0 c1 d0 d1 : Int} (hs1 : (0 ≤ cr c0 c1 d0 d1 a0 a1 ∧ cr c0 c1 d0 d1 b0 b1 ≤ 0) ∨ (cr c0 c1 d0 d1 a0 a1 ≤ 0 ∧ 0 ≤ cr c0 c1 d0 d1 b0 b1))
    (hs2 : (0 ≤ cr a0 a1 b0 b1 c0 c1 ∧ cr a0 a1 b0 b1 d0 d1 ≤ 0) ∨ (cr a0 a1 b0 b1 c0 c1 ≤ 0 ∧ 0 ≤ cr a0 a1 b0 b1 d0 d1))
    (hne : ¬ (cr c0 c1 d0 d1 a0 a1 = 0 ∧ cr c0 c1 d0 d1 b0 b1 = 0 ∧ cr a0 a1 b0 b1 c0 c1 = 0 ∧ cr a0 a1 b0 b1 d0 d1 = 0)) : bnear a0 a1 b0 b1 c0 c1 d0 d1 := by
  have h1 : cr a0 a1 b0 b1 d0 d1 - cr a0 a1 b0 b1 c0 c1 = cr c0 c1 d0 d1 a0 a1 - cr c0 c1 d0 d1 b0 b1 := by unfold cr; grind
  have hx : cr a0 a1 b0 b1 d0 d1 * c0 - cr a0 a1 b0 b1 c0 c1 * d0 = cr c0 c1 d0 d1 a0 a1 * b0 - cr c0 c1 d0 d1 b0 b1 * a0 := by unfold cr; grind
  have hy : cr a0 a1 b0 b1 d0 d1 * c1 - cr a0 a1 b0 b1 c0 c1 * d1 = cr c0 c1 d0 d1 a0 a1 * b1 - cr c0 c1 d0 d1 b0 b1 * a1 := by unfold cr; grind
  have n2 : ¬ (cr a0 a1 b0 b1 c0 c1 = 0 ∧ cr a0 a1 b0 b1 d0 d1 = 0 ∧ cr c0 c1 d0 d1 a0 a1 = 0 ∧ cr c0 c1 d0 d1 b0 b1 = 0) := by omega
  exact ⟨reach (by omega) (by omega) hs2 hs1 n2, reach h1 hx hs1 hs2 hne, reach (by omega) (by omega) hs2 hs1 n2, reach h1 hy hs1 hs2 hne⟩
theorem ov_some {ka kb kc kd : Int} (h : ov ka kb kc kd ≠ 0) : ((kc ≤ ka ∧ ka ≤ kd) ∨ (kd ≤ ka ∧ ka ≤ kc)) ∨ ((kc ≤ kb ∧ kb ≤ kd) ∨ (kd ≤ kb ∧ kb ≤ kc)) ∨ ((ka ≤ kc ∧ kc ≤ kb) ∨ (kb ≤ kc ∧ kc ≤ ka)) ∨ ((ka ≤ kd ∧ kd ≤ kb) ∨ (kb ≤ kd ∧ kd ≤ ka)) := by
  unfold ov at h
  split at h
  · omega
  · split at h
    · omega
    · exact absurd rfl h
theorem bnear_of_meet {a0 a1 b0 b1 c0 c1 d0 d1 : Int} (ha : In a0 a1) (hb : In b0 b1) (hc : In c0 c1) (hd : In d0 d1) (h : meetOf a0 a1 b0 b1 c0 c1 d0 d1 ≠ 0) : bnear a0 a1 b0 b1 c0 c1 d0 d1 := by
  rw [meet_of ha hb hc hd] at h
  unfold meetS at h
  split at h
  · rename_i hz
    obtain ⟨z1, z2, z3, z4⟩ := hz
    rw [Int.sign_eq_zero_iff_zero] at z1 z2 z3 z4
    have e := ov_some h
    rw [← box_key hc.sm hd.sm ha.sm z1, ← box_key hc.sm hd.sm hb.sm z2, ← box_key ha.sm hb.sm hc.sm z3, ← box_key ha.sm hb.sm hd.sm z4] at e
    unfold bx bt at e
    unfold bnear
    omega
  · rename_i hz
    split at h
    · rename_i hp
      refine bnear_cross (opp_of hp.1) (opp_of hp.2) (fun hq => hz ?_)
      simp only [Int.sign_eq_zero_iff_zero]
      exact hq
    · exact absurd rfl h

end Go.Proofs.Ytmldgjhecoeldaa

namespace Go.Proofs.Ytmldgjhecoeldaa
open Go.RowKit Go.Lib Geo

/-- How many points two segments have in common. -/
def mt (a b c d : Int × Int) : Int := meetOf a.1 a.2 b.1 b.2 c.1 c.2 d.1 d.2
def Inn (a : Int × Int) : Prop := In a.1 a.2
theorem mt_swap {a b c d : Int × Int} (ha : Inn a) (hb : Inn b) (hc : Inn c) (hd : Inn d) : mt c d a b = mt a b c d := by
  unfold mt; rw [Geo.meet_in hc hd ha hb, Geo.meet_in ha hb hc hd]; exact meetG_swap _ _ _ _ _ _ _ _
theorem mt_left {a b c d : Int × Int} (ha : Inn a) (hb : Inn b) (hc : Inn c) (hd : Inn d) : mt b a c d = mt a b c d := by
  unfold mt; rw [Geo.meet_in hb ha hc hd, Geo.meet_in ha hb hc hd]; exact meetG_left _ _ _ _ _ _ _ _
theorem mt_right {a b c d : Int × Int} (ha : Inn a) (hb : Inn b) (hc : Inn c) (hd : Inn d) : mt a b d c = mt a b c d := by
  unfold mt; rw [Geo.meet_in ha hb hd hc, Geo.meet_in ha hb hc hd]; exact meetG_right _ _ _ _ _ _ _ _
/-- Segments beside each other. -/
theorem mt_apart {a b c d : Int × Int} (ha : Inn a) (hb : Inn b) (hc : Inn c) (hd : Inn d) (h : (a.1 < c.1 ∧ a.1 < d.1 ∧ b.1 < c.1 ∧ b.1 < d.1) ∨ (c.1 < a.1 ∧ d.1 < a.1 ∧ c.1 < b.1 ∧ d.1 < b.1)) : mt a b c d = 0 := by
  refine Decidable.byContradiction fun hne => ?_
  have := bnear_of_meet ha hb hc hd hne
  unfold bnear at this
  omega
theorem sign_pp {x y : Int} (h : 0 < x) (k : 0 < y) : ¬ (x.sign * y.sign ≤ 0) := by
  rw [Int.sign_eq_one_of_pos h, Int.sign_eq_one_of_pos k]; decide
theorem sign_nn {x y : Int} (h : x < 0) (k : y < 0) : ¬ (x.sign * y.sign ≤ 0) := by
  rw [Int.sign_eq_neg_one_of_neg h, Int.sign_eq_neg_one_of_neg k]; decide
/-- A segment on one side of another one. -/
theorem mt_side {a b c d : Int × Int} (ha : Inn a) (hb : Inn b) (hc : Inn c) (hd : Inn d)
    (h : (0 < cr a.1 a.2 b.1 b.2 c.1 c.2 ∧ 0 < cr a.1 a.2 b.1 b.2 d.1 d.2) ∨ (0 < cr c.1 c.2 d.1 d.2 a.1 a.2 ∧ 0 < cr c.1 c.2 d.1 d.2 b.1 b.2) ∨ (cr c.1 c.2 d.1 d.2 a.1 a.2 < 0 ∧ cr c.1 c.2 d.1 d.2 b.1 b.2 < 0)) : mt a b c d = 0 := by
  unfold mt
  rw [meet_of ha hb hc hd]
  unfold meetS
  rcases h with h | h | h
  · rw [if_neg (by rw [Int.sign_eq_one_of_pos h.1]; omega), if_neg (fun e => sign_pp h.1 h.2 e.2)]
  · rw [if_neg (by rw [Int.sign_eq_one_of_pos h.1]; omega), if_neg (fun e => sign_pp h.1 h.2 e.1)]
  · rw [if_neg (by rw [Int.sign_eq_neg_one_of_neg h.1]; omega), if_neg (fun e => sign_nn h.1 h.2 e.1)]
/-- Neighbours. -/
theorem mt_next {a b d : Int × Int} (ha : Inn a) (hb : Inn b) (hd : Inn d)
    (h : cr a.1 a.2 b.1 b.2 d.1 d.2 ≠ 0 ∨ (key a.1 a.2 < key b.1 b.2 ∧ key b.1 b.2 < key d.1 d.2) ∨ (key b.1 b.2 < key a.1 a.2 ∧ key d.1 d.2 < key b.1 b.2)) : mt a b b d = 1 := by
  unfold mt
  rw [meet_of ha hb hb hd, show cr b.1 b.2 d.1 d.2 b.1 b.2 = 0 by unfold cr; grind, show cr a.1 a.2 b.1 b.2 b.1 b.2 = 0 by unfold cr; grind, show cr b.1 b.2 d.1 d.2 a.1 a.2 = cr a.1 a.2 b.1 b.2 d.1 d.2 by unfold cr; grind]
  by_cases c : cr a.1 a.2 b.1 b.2 d.1 d.2 = 0
  · rw [c]
    unfold meetS
    rw [if_pos (by decide)]
    unfold ov
    rcases h with h | h | h
    · exact absurd c h
    · rw [if_pos (by omega)]
    · rw [if_pos (by omega)]
  · unfold meetS
    have e : (0 : Int).sign = 0 := rfl
    rw [if_neg (by rw [Int.sign_eq_zero_iff_zero]; omega), if_pos (by rw [e]; omega)]
theorem key_x {a b : Int × Int} (ha : Inn a) (hb : Inn b) (h : a.1 < b.1 ∨ (a.1 = b.1 ∧ a.2 < b.2)) : key a.1 a.2 < key b.1 b.2 :=
  (key_lt ha.sm hb.sm).1 (lexlt_iff.2 h)

/-- Two columns with a common line. -/
theorem mt_cross {x0 l0 x1 l1 h1 x2 h2 : Int} (ha : In x0 l0) (hb : In x1 l1) (hc : In x1 h1) (hd : In x2 h2) (h01 : x0 < x1) (h12 : x1 < x2) (hlh : l1 < h1) : mt (x0, l0) (x1, l1) (x1, h1) (x2, h2) = 0 := by
  unfold mt
  rw [meet_of ha hb hc hd]
  have p1 := Int.mul_pos (show 0 < x1 - x0 by omega) (show 0 < h1 - l1 by omega)
  have p2 := Int.mul_pos (show 0 < x2 - x1 by omega) (show 0 < h1 - l1 by omega)
  have e1 : cr x0 l0 x1 l1 x1 h1 = (x1 - x0) * (h1 - l1) := by unfold cr; grind
  have e2 : cr x1 h1 x2 h2 x1 l1 = -((x2 - x1) * (h1 - l1)) := by unfold cr; grind
  have e3 : cr x0 l0 x1 l1 x2 h2 - cr x1 h1 x2 h2 x0 l0 = (x1 - x0) * (h1 - l1) + (x2 - x1) * (h1 - l1) := by unfold cr; grind
  unfold meetS
  rw [if_neg (by rw [e1, Int.sign_eq_one_of_pos p1]; omega), if_neg]
  rintro ⟨g1, g2⟩
  rcases Int.lt_or_le 0 (cr x0 l0 x1 l1 x2 h2) with c | c
  · exact sign_pp (show 0 < cr x0 l0 x1 l1 x1 h1 by omega) c g2
  · exact sign_nn (show cr x1 h1 x2 h2 x0 l0 < 0 by omega) (show cr x1 h1 x2 h2 x1 l1 < 0 by omega) g1
theorem mt_cross2 {x0 h0 x1 l1 h1 x2 l2 : Int} (ha : In x1 l1) (hb : In x2 l2) (hc : In x1 h1) (hd : In x0 h0) (h01 : x0 < x1) (h12 : x1 < x2) (hlh : l1 < h1) : mt (x1, l1) (x2, l2) (x1, h1) (x0, h0) = 0 := by
  unfold mt
  rw [meet_of ha hb hc hd]
  have p1 := Int.mul_pos (show 0 < x1 - x0 by omega) (show 0 < h1 - l1 by omega)
  have p2 := Int.mul_pos (show 0 < x2 - x1 by omega) (show 0 < h1 - l1 by omega)
  have e1 : cr x1 l1 x2 l2 x1 h1 = (x2 - x1) * (h1 - l1) := by unfold cr; grind
  have e2 : cr x1 h1 x0 h0 x1 l1 = (x1 - x0) * (h1 - l1) := by unfold cr; grind
  have e3 : cr x1 l1 x2 l2 x0 h0 + cr x1 h1 x0 h0 x2 l2 = (x2 - x1) * (h1 - l1) + (x1 - x0) * (h1 - l1) := by unfold cr; grind
  unfold meetS
  rw [if_neg (by rw [e1, Int.sign_eq_one_of_pos p2]; omega), if_neg]
  rintro ⟨g1, g2⟩
  rcases Int.lt_or_le 0 (cr x1 l1 x2 l2 x0 h0) with c | c
  · exact sign_pp (show 0 < cr x1 l1 x2 l2 x1 h1 by omega) c g2
  · exact sign_pp (show 0 < cr x1 h1 x0 h0 x1 l1 by omega) (show 0 < cr x1 h1 x0 h0 x2 l2 by omega) g1

/-- A ring that does not meet itself. -/
structure Vd (n : Nat) (P : Nat → Int × Int) : Prop where
  ne : ∀ j, j < n → P j ≠ P (nx n j)
  me : ∀ i j, i < j → j < n → mt (P i) (P (nx n i)) (P j) (P (nx n j)) = if j = i + 1 ∨ (i = 0 ∧ j + 1 = n) then 1 else 0

section
variable {m : Nat} {X L H : Nat → Int}
theorem Mono.valid (M : Mono m X L H) (hB : ∀ k, k < m → In (X k) (L k) ∧ In (X k) (H k)) : Vd (2 * m) (mp m X L H) where
  ne := by
    have h2 := M.two
    refine each (Q := fun a b => a ≠ b) h2 ?_ ?_ ?_ ?_
    · intro k hk e; have := M.inc k hk; injection e; omega
    · intro k hk e; have := M.inc k hk; injection e; omega
    · intro e; have := M.lh (m - 1) (by omega); injection e; omega
    · intro e; have := M.lh 0 (by omega); injection e; omega
  me := by
    have h2 := M.two
    have iL : ∀ k, k < m → Inn (X k, L k) := fun k hk => (hB k hk).1
    have iH : ∀ k, k < m → Inn (X k, H k) := fun k hk => (hB k hk).2
    intro i j hij hj
    rcases (show i + 1 < m ∨ i = m - 1 ∨ (m ≤ i ∧ i < 2 * m - 1) by omega) with ci | ci | ci
    · rw [(seg_low ci).1, (seg_low ci).2]
      have xi := M.inc i ci
      rcases (show j + 1 < m ∨ j = m - 1 ∨ (m ≤ j ∧ j < 2 * m - 1) ∨ j = 2 * m - 1 by omega) with cj | cj | cj | cj
      · rw [(seg_low cj).1, (seg_low cj).2]
        have xj := M.inc j cj
        by_cases e : j = i + 1
        · subst e
          rw [if_pos (.inl rfl)]
          exact mt_next (iL _ (by omega)) (iL _ (by omega)) (iL _ (by omega)) (.inr (.inl ⟨key_x (iL _ (by omega)) (iL _ (by omega)) (.inl xi), key_x (iL _ (by omega)) (iL _ (by omega)) (.inl xj)⟩))
        · rw [if_neg (by omega)]
          have := M.lt (i := i + 1) (j := j) (by omega) (by omega)
          exact mt_apart (iL _ (by omega)) (iL _ (by omega)) (iL _ (by omega)) (iL _ (by omega)) (by simp only; omega)
      · subst cj
        rw [(seg_right h2).1, (seg_right h2).2]
        by_cases e : m - 1 = i + 1
        · rw [if_pos (.inl e), e]
          have hl := M.lh (i + 1) (by omega)
          exact mt_next (iL _ (by omega)) (iL _ (by omega)) (iH _ (by omega)) (.inr (.inl ⟨key_x (iL _ (by omega)) (iL _ (by omega)) (.inl xi), key_x (iL _ (by omega)) (iH _ (by omega)) (.inr ⟨rfl, hl⟩)⟩))
        · rw [if_neg (by omega)]
          have := M.lt (i := i + 1) (j := m - 1) (by omega) (by omega)
          exact mt_apart (iL _ (by omega)) (iL _ (by omega)) (iL _ (by omega)) (iH _ (by omega)) (by simp only; omega)
      · obtain ⟨l, hl, rfl⟩ : ∃ l, l + 1 < m ∧ j = 2 * m - 2 - l := ⟨2 * m - 2 - j, by omega, by omega⟩
        rw [(seg_high hl).1, (seg_high hl).2, if_neg (by omega)]
        have xl := M.inc l hl
        rcases (show i = l ∨ l = i + 1 ∨ i = l + 1 ∨ i + 1 < l ∨ l + 1 < i by omega) with e | e | e | e | e
        · subst e
          have a1 := M.lh i (by omega)
          have a2 := M.lh (i + 1) ci
          refine mt_side (iL _ (by omega)) (iL _ (by omega)) (iH _ (by omega)) (iH _ (by omega)) (.inl ⟨?_, ?_⟩)
          · simp only; rw [cr_stop]; exact Int.mul_pos (by omega) (by omega)
          · simp only; rw [cr_start]; exact Int.mul_pos (by omega) (by omega)
        · subst e
          rw [mt_right (iL _ (by omega)) (iL _ (by omega)) (iH _ (by omega)) (iH _ (by omega))]
          exact mt_cross (iL _ (by omega)) (iL _ (by omega)) (iH _ (by omega)) (iH _ (by omega)) xi xl (M.lh _ (by omega))
        · subst e
          exact mt_cross2 (iL _ (by omega)) (iL _ (by omega)) (iH _ (by omega)) (iH _ (by omega)) xl xi (M.lh _ (by omega))
        · have := M.lt (i := i + 1) (j := l) (by omega) (by omega)
          exact mt_apart (iL _ (by omega)) (iL _ (by omega)) (iH _ (by omega)) (iH _ (by omega)) (by simp only; omega)
        · have := M.lt (i := l + 1) (j := i) (by omega) (by omega)
          exact mt_apart (iL _ (by omega)) (iL _ (by omega)) (iH _ (by omega)) (iH _ (by omega)) (by simp only; omega)
      · subst cj
        rw [(seg_left h2).1, (seg_left h2).2]
        by_cases e : i = 0
        · subst e
          rw [if_pos (.inr ⟨rfl, by omega⟩), mt_swap (iH _ (by omega)) (iL _ (by omega)) (iL _ (by omega)) (iL _ (by omega))]
          have a1 := M.lh 0 (by omega)
          have a2 : X 0 < X 1 := xi
          refine mt_next (iH _ (by omega)) (iL _ (by omega)) (iL _ (by omega)) (.inl ?_)
          have := Int.mul_pos (show 0 < H 0 - L 0 by omega) (show 0 < X 1 - X 0 by omega)
          simp only [Nat.zero_add]
          rw [show cr (X 0) (H 0) (X 0) (L 0) (X 1) (L 1) = (H 0 - L 0) * (X 1 - X 0) by unfold cr; grind]
          omega
        · rw [if_neg (by omega)]
          have := M.lt (i := 0) (j := i) (by omega) (by omega)
          exact mt_apart (iL _ (by omega)) (iL _ (by omega)) (iH _ (by omega)) (iL _ (by omega)) (by simp only; omega)
    · subst ci
      rw [(seg_right h2).1, (seg_right h2).2]
      rcases (show (m ≤ j ∧ j < 2 * m - 1) ∨ j = 2 * m - 1 by omega) with cj | cj
      · obtain ⟨l, hl, rfl⟩ : ∃ l, l + 1 < m ∧ j = 2 * m - 2 - l := ⟨2 * m - 2 - j, by omega, by omega⟩
        rw [(seg_high hl).1, (seg_high hl).2]
        have xl := M.inc l hl
        by_cases e : l + 1 = m - 1
        · rw [if_pos (.inl (by omega)), ← e]
          have a1 := M.lh (l + 1) (by omega)
          refine mt_next (iL _ (by omega)) (iH _ (by omega)) (iH _ (by omega)) (.inl ?_)
          have := Int.mul_pos (show 0 < H (l + 1) - L (l + 1) by omega) (show 0 < X (l + 1) - X l by omega)
          simp only
          rw [show cr (X (l + 1)) (L (l + 1)) (X (l + 1)) (H (l + 1)) (X l) (H l) = (H (l + 1) - L (l + 1)) * (X (l + 1) - X l) by unfold cr; grind]
          omega
        · rw [if_neg (by omega)]
          have := M.lt (i := l + 1) (j := m - 1) (by omega) (by omega)
          exact mt_apart (iL _ (by omega)) (iH _ (by omega)) (iH _ (by omega)) (iH _ (by omega)) (by simp only; omega)
      · subst cj
        rw [(seg_left h2).1, (seg_left h2).2, if_neg (by omega)]
        have := M.lt (i := 0) (j := m - 1) (by omega) (by omega)
        exact mt_apart (iL _ (by omega)) (iH _ (by omega)) (iH _ (by omega)) (iL _ (by omega)) (by simp only; omega)
    · obtain ⟨k, hk, rfl⟩ : ∃ k, k + 1 < m ∧ i = 2 * m - 2 - k := ⟨2 * m - 2 - i, by omega, by omega⟩
      rw [(seg_high hk).1, (seg_high hk).2]
      have xk := M.inc k hk
      rcases (show (m ≤ j ∧ j < 2 * m - 1) ∨ j = 2 * m - 1 by omega) with cj | cj
      · obtain ⟨l, hl, rfl⟩ : ∃ l, l + 1 < m ∧ j = 2 * m - 2 - l := ⟨2 * m - 2 - j, by omega, by omega⟩
        rw [(seg_high hl).1, (seg_high hl).2]
        have xl := M.inc l hl
        by_cases e : k = l + 1
        · subst e
          rw [if_pos (.inl (by omega))]
          exact mt_next (iH _ (by omega)) (iH _ (by omega)) (iH _ (by omega)) (.inr (.inr ⟨key_x (iH _ (by omega)) (iH _ (by omega)) (.inl xk), key_x (iH _ (by omega)) (iH _ (by omega)) (.inl xl)⟩))
        · rw [if_neg (by omega)]
          have := M.lt (i := l + 1) (j := k) (by omega) (by omega)
          exact mt_apart (iH _ (by omega)) (iH _ (by omega)) (iH _ (by omega)) (iH _ (by omega)) (by simp only; omega)
      · subst cj
        rw [(seg_left h2).1, (seg_left h2).2]
        by_cases e : k = 0
        · subst e
          rw [if_pos (.inl (by omega))]
          have a1 := M.lh 0 (by omega)
          exact mt_next (iH _ (by omega)) (iH _ (by omega)) (iL _ (by omega)) (.inr (.inr ⟨key_x (iH _ (by omega)) (iH _ (by omega)) (.inl xk), key_x (iL _ (by omega)) (iH _ (by omega)) (.inr ⟨rfl, a1⟩)⟩))
        · rw [if_neg (by omega)]
          have := M.lt (i := 0) (j := k) (by omega) (by omega)
          exact mt_apart (iH _ (by omega)) (iH _ (by omega)) (iH _ (by omega)) (iL _ (by omega)) (by simp only; omega)
end
end Go.Proofs.Ytmldgjhecoeldaa

namespace Go.Proofs.Ytmldgjhecoeldaa
open Go.RowKit Go.Lib Geo

section
variable {n : Nat} {P : Nat → Int × Int}
/-- The ring that begins with the next point. -/
def rt1 (n : Nat) (P : Nat → Int × Int) (k : Nat) : Int × Int := P (nx n k)
theorem rays_rt1 (n : Nat) (P : Nat → Int × Int) (p : Int × Int) : rays (rt1 n P) n p = rays P n p := by
  unfold rays rt1
  exact sumT_nx (fun k => ry (P k).1 (P k).2 (P (nx n k)).1 (P (nx n k)).2 p.1 p.2) n
theorem area_rt1 (n : Nat) (P : Nat → Int × Int) : area (rt1 n P) n = area P n := by
  unfold area rt1
  exact sumT_nx (fun k => cx (P k).1 (P k).2 (P (nx n k)).1 (P (nx n k)).2) n
theorem off_rt1 {p : Int × Int} : Off (rt1 n P) n p ↔ Off P n p := by
  constructor
  · intro h k hk
    by_cases e : k = 0
    · subst e
      have := h (n - 1) (by omega)
      unfold rt1 at this
      rw [show nx n (n - 1) = 0 by unfold nx; rw [if_pos (by omega)]] at this
      exact this
    · have := h (k - 1) (by omega)
      unfold rt1 at this
      rw [show nx n (k - 1) = k by unfold nx; rw [if_neg (by omega)]; omega] at this
      exact this
  · intro h k hk
    exact h (nx n k) (nx_lt hk)
theorem vd_rt1 (hI : ∀ k, k < n → Inn (P k)) (h : Vd n P) : Vd n (rt1 n P) where
  ne := fun j hj => h.ne (nx n j) (nx_lt hj)
  me := by
    intro i j hij hj
    unfold rt1
    by_cases e : j + 1 = n
    · have e1 : nx n j = 0 := by unfold nx; rw [if_pos e]
      have e2 : nx n i = i + 1 := by unfold nx; rw [if_neg (by omega)]
      have h1 := nx_lt (n := n) (k := 0) (by omega)
      have h2 := nx_lt (n := n) (k := i + 1) (by omega)
      rw [e1, e2, mt_swap (hI _ (by omega)) (hI _ h1) (hI _ (by omega)) (hI _ h2), h.me 0 (i + 1) (by omega) (by omega)]
      by_cases c : i + 1 = 0 + 1 ∨ 0 = 0 ∧ i + 1 + 1 = n
      · rw [if_pos c, if_pos (by omega)]
      · rw [if_neg c, if_neg (by omega)]
    · have e1 : nx n j = j + 1 := by unfold nx; rw [if_neg e]
      have e2 : nx n i = i + 1 := by unfold nx; rw [if_neg (by omega)]
      rw [e1, e2, h.me (i + 1) (j + 1) (by omega) (by omega)]
      by_cases c : j + 1 = i + 1 + 1 ∨ i + 1 = 0 ∧ j + 1 + 1 = n
      · rw [if_pos c, if_pos (by omega)]
      · rw [if_neg c, if_neg (by omega)]
/-- Begun k points later. -/
def rtk (n : Nat) (P : Nat → Int × Int) : Nat → Nat → Int × Int
  | 0 => P
  | k + 1 => rt1 n (rtk n P k)
theorem rtk_at {k : Nat} (hk : k ≤ n) : ∀ {i : Nat}, i < n → rtk n P k i = P (if i + k < n then i + k else i + k - n) := by
  induction k with
  | zero => intro i hi; rw [if_pos (by omega)]; rfl
  | succ k ih =>
    intro i hi
    show rtk n P k (nx n i) = _
    rw [ih (by omega) (nx_lt hi)]
    unfold nx
    by_cases e : i + 1 = n
    · rw [if_pos e]
      by_cases c : 0 + k < n
      · rw [if_pos c, if_neg (by omega)]; congr 1; omega
      · omega
    · rw [if_neg e]
      by_cases c : i + 1 + k < n
      · rw [if_pos c, if_pos (by omega)]; congr 1; omega
      · rw [if_neg c, if_neg (by omega)]; congr 1; omega
theorem rtk_inn (hI : ∀ k, k < n → Inn (P k)) : ∀ k i, i < n → Inn (rtk n P k i) := by
  intro k
  induction k with
  | zero => exact hI
  | succ k ih => intro i hi; exact ih _ (nx_lt hi)
theorem vd_rtk (hI : ∀ k, k < n → Inn (P k)) (h : Vd n P) : ∀ k, Vd n (rtk n P k) := by
  intro k
  induction k with
  | zero => exact h
  | succ k ih => exact vd_rt1 (rtk_inn hI k) ih
theorem rays_rtk (p : Int × Int) : ∀ k, rays (rtk n P k) n p = rays P n p := by
  intro k
  induction k with
  | zero => rfl
  | succ k ih => rw [← ih]; exact rays_rt1 n _ p
theorem area_rtk : ∀ k, area (rtk n P k) n = area P n := by
  intro k
  induction k with
  | zero => rfl
  | succ k ih => rw [← ih]; exact area_rt1 n _
theorem off_rtk {p : Int × Int} : ∀ k, Off (rtk n P k) n p ↔ Off P n p := by
  intro k
  induction k with
  | zero => exact Iff.rfl
  | succ k ih => rw [← ih]; exact off_rt1

/-- The other direction. -/
def bk (n : Nat) (P : Nat → Int × Int) (k : Nat) : Int × Int := P (n - 1 - k)
/-- The segment that is passed, there. -/
def sb (n k : Nat) : Nat := if k + 1 = n then k else n - 2 - k
theorem sb_lt {k : Nat} (h : k < n) : sb n k < n := by unfold sb; split <;> omega
theorem bk_seg {k : Nat} (h : k < n) : bk n P k = P (nx n (sb n k)) ∧ bk n P (nx n k) = P (sb n k) := by
  unfold bk sb nx
  by_cases e : k + 1 = n
  · rw [if_pos e, if_pos e]; exact ⟨by congr 1; omega, by congr 1; omega⟩
  · rw [if_neg e, if_neg e, if_neg (by omega)]; exact ⟨by congr 1; omega, by congr 1; omega⟩
theorem sumT_sb (g : Nat → Int) : sumT (fun k => g (sb n k)) n = sumT g n := by
  cases n with
  | zero => rfl
  | succ n =>
    rw [sumT, sumT, ← sumT_flip g n]
    congr 1
    · exact sumT_congr fun k hk => by unfold sb; rw [if_neg (by omega)]; congr 1
    · unfold sb; rw [if_pos rfl]
theorem rays_bk (p : Int × Int) : rays (bk n P) n p = -rays P n p := by
  unfold rays
  rw [← sumT_neg, ← sumT_sb (fun k => -ry (P k).1 (P k).2 (P (nx n k)).1 (P (nx n k)).2 p.1 p.2)]
  refine sumT_congr fun k hk => ?_
  rw [(bk_seg hk).1, (bk_seg hk).2, ry_sw]
theorem cx_sw (a b c d : Int) : cx c d a b = -cx a b c d := by unfold cx; grind
theorem area_bk : area (bk n P) n = -area P n := by
  unfold area
  rw [← sumT_neg, ← sumT_sb (fun k => -cx (P k).1 (P k).2 (P (nx n k)).1 (P (nx n k)).2)]
  refine sumT_congr fun k hk => ?_
  rw [(bk_seg hk).1, (bk_seg hk).2, cx_sw]
theorem on_sw (a b p : Int × Int) : OnS b a p ↔ OnS a b p := by
  unfold OnS
  rw [cr_sw]
  unfold bx bt
  omega
theorem sb_sb {k : Nat} (h : k < n) : sb n (sb n k) = k := by
  unfold sb
  by_cases e : k + 1 = n
  · rw [if_pos e, if_pos e]
  · rw [if_neg e, if_neg (by omega)]; omega
theorem off_bk {p : Int × Int} : Off (bk n P) n p ↔ Off P n p := by
  rw [off_iff, off_iff]
  constructor
  · intro h k hk
    have := h (sb n k) (sb_lt hk)
    rw [(bk_seg (sb_lt hk)).1, (bk_seg (sb_lt hk)).2, sb_sb hk, on_sw] at this
    exact this
  · intro h k hk
    rw [(bk_seg hk).1, (bk_seg hk).2, on_sw]
    exact h _ (sb_lt hk)
theorem vd_bk (hI : ∀ k, k < n → Inn (P k)) (h : Vd n P) : Vd n (bk n P) where
  ne := fun j hj => by rw [(bk_seg hj).1, (bk_seg hj).2]; exact (h.ne _ (sb_lt hj)).symm
  me := by
    intro i j hij hj
    have hi : i < n := by omega
    have s1 := sb_lt hi
    have s2 := sb_lt hj
    have t1 := nx_lt s1
    have t2 := nx_lt s2
    rw [(bk_seg hi).1, (bk_seg hi).2, (bk_seg hj).1, (bk_seg hj).2, mt_left (hI _ s1) (hI _ t1) (hI _ t2) (hI _ s2), mt_right (hI _ s1) (hI _ t1) (hI _ s2) (hI _ t2)]
    by_cases e : j + 1 = n
    · have e1 : sb n j = n - 1 := by unfold sb; rw [if_pos e]; omega
      have e2 : sb n i = n - 2 - i := by unfold sb; rw [if_neg (by omega)]
      rw [h.me _ _ (by omega) s2]
      by_cases c : sb n j = sb n i + 1 ∨ sb n i = 0 ∧ sb n j + 1 = n
      · rw [if_pos c, if_pos (by omega)]
      · rw [if_neg c, if_neg (by omega)]
    · have e1 : sb n j = n - 2 - j := by unfold sb; rw [if_neg e]
      have e2 : sb n i = n - 2 - i := by unfold sb; rw [if_neg (by omega)]
      rw [mt_swap (hI _ s2) (hI _ t2) (hI _ s1) (hI _ t1), h.me _ _ (by omega) s1]
      by_cases c : sb n i = sb n j + 1 ∨ sb n j = 0 ∧ sb n i + 1 = n
      · rw [if_pos c, if_pos (by omega)]
      · rw [if_neg c, if_neg (by omega)]
/-- Moved. -/
theorem area_tv (x y : Int) : area (fun k => tv x y (P k)) n = area P n := by
  have h : sumT (fun k => cx (tv x y (P k)).1 (tv x y (P k)).2 (tv x y (P (nx n k))).1 (tv x y (P (nx n k))).2 - cx (P k).1 (P k).2 (P (nx n k)).1 (P (nx n k)).2) n = sumT (fun k => (x * (P (nx n k)).2 - y * (P (nx n k)).1) - (x * (P k).2 - y * (P k).1)) n :=
    sumT_congr fun k _ => by unfold cx tv; grind
  rw [sumT_sub, sumT_sub, sumT_nx (fun k => x * (P k).2 - y * (P k).1)] at h
  show sumT (fun k => cx (tv x y (P k)).1 (tv x y (P k)).2 (tv x y (P (nx n k))).1 (tv x y (P (nx n k))).2) n = sumT (fun k => cx (P k).1 (P k).2 (P (nx n k)).1 (P (nx n k)).2) n
  omega
theorem area_tq : area (fun k => tq (P k)) n = area P n := by
  unfold area
  exact sumT_congr fun k _ => by unfold cx tq; grind
end
end Go.Proofs.Ytmldgjhecoeldaa

namespace Go.Proofs.Ytmldgjhecoeldaa
open Geo

/-- The sum over n numbers from a on. -/
def sumI (f : Int → Int) (a : Int) (n : Nat) : Int := sumT (fun k => f (a + k)) n
theorem sumI_split (f : Int → Int) (a : Int) (n k : Nat) : sumI f a (n + k) = sumI f a n + sumI f (a + n) k := by
  unfold sumI
  rw [sumT_split]
  congr 1
  exact sumT_congr fun j _ => by rw [show a + ((n + j : Nat) : Int) = a + n + j by omega]
theorem sumI_congr {f g : Int → Int} {a : Int} {n : Nat} (h : ∀ x, a ≤ x → x < a + n → f x = g x) : sumI f a n = sumI g a n := sumT_congr fun k hk => h _ (by omega) (by omega)
theorem sumI_const {f : Int → Int} {a : Int} {n : Nat} (c : Int) (h : ∀ x, a ≤ x → x < a + n → f x = c) : sumI f a n = n * c := by
  rw [sumI_congr (g := fun _ => c) h]; exact sumT_const c n
theorem sumI_zero {f : Int → Int} {a : Int} {n : Nat} (h : ∀ x, a ≤ x → x < a + n → f x = 0) : sumI f a n = 0 := by rw [sumI_const 0 h]; omega
theorem sumI_one (f : Int → Int) (a : Int) : sumI f a 1 = f a := by simp [sumI, sumT]
theorem sumI_sub (f g : Int → Int) (a : Int) (n : Nat) : sumI (fun x => f x - g x) a n = sumI f a n - sumI g a n := sumT_sub _ _ _

/-- The signs of D y - N, for all y from -B to B. -/
def gs (B : Nat) (D N : Int) : Int := sumI (fun y => (D * y - N).sign) (-B) (2 * B + 1)
theorem gs_of {B : Nat} {D q r : Int} (h0 : 0 ≤ r) (h1 : r < D) (hq : -B ≤ q ∧ q ≤ B) : gs B D (D * q + r) = -2 * q - (if r = 0 then 0 else 1) := by
  obtain ⟨i, hi⟩ : ∃ i : Nat, q = i - B := ⟨(q + B).toNat, by omega⟩
  obtain ⟨j, hj⟩ : ∃ j : Nat, 2 * B + 1 = i + (1 + j) := ⟨2 * B - i, by omega⟩
  unfold gs
  rw [hj, sumI_split, sumI_split, sumI_one]
  have e : ∀ y, D * y - (D * q + r) = D * (y - q) - r := fun y => by rw [Int.mul_sub]; omega
  rw [sumI_const (-1), sumI_const 1, show (-(B : Int) + i) = q by omega, e, Int.sub_self, Int.mul_zero]
  · split
    · next h => subst h; simp; omega
    · next h => rw [Int.sign_eq_neg_one_of_neg (show 0 - r < 0 by omega)]; omega
  · intro x hx _
    have h2 := Int.mul_le_mul_of_nonneg_left (show (1 : Int) ≤ x - q by omega) (show 0 ≤ D by omega)
    simp only [e]
    exact Int.sign_eq_one_of_pos (by omega)
  · intro x _ hx
    have h2 := Int.mul_le_mul_of_nonneg_left (show x - q ≤ (-1 : Int) by omega) (show 0 ≤ D by omega)
    simp only [e]
    exact Int.sign_eq_neg_one_of_neg (by omega)
theorem quo_bd {B : Nat} {D q r : Int} (h0 : 0 ≤ r) (h1 : r < D) (hN : -(D * B) ≤ D * q + r ∧ D * q + r ≤ D * B) : -B ≤ q ∧ q ≤ B := by
  constructor
  · rcases Int.lt_or_le q (-B) with c | c
    · have := Int.mul_le_mul_of_nonneg_left (show q ≤ -(B : Int) - 1 by omega) (show 0 ≤ D by omega)
      rw [Int.mul_sub, Int.mul_neg] at this; omega
    · exact c
  · rcases Int.lt_or_le B q with c | c
    · have := Int.mul_le_mul_of_nonneg_left (show (B : Int) + 1 ≤ q by omega) (show 0 ≤ D by omega)
      rw [Int.mul_add] at this; omega
    · exact c
theorem gs_at {B : Nat} {D q : Int} (hD : 0 < D) (hq : -B ≤ q ∧ q ≤ B) : gs B D (D * q) = -2 * q := by
  have := gs_of (D := D) (r := 0) (q := q) (B := B) (by omega) hD hq
  rw [Int.add_zero, if_pos rfl] at this; omega
/-- Two numbers whose sum is a multiple of D. -/
theorem gs_pair {B : Nat} {D N s : Int} (hD : 0 < D) (hN : -(D * B) ≤ N ∧ N ≤ D * B) (hM : -(D * B) ≤ D * s - N ∧ D * s - N ≤ D * B) : gs B D N + gs B D (D * s - N) = -2 * s := by
  have e := Int.mul_ediv_add_emod N D
  have h0 := Int.emod_nonneg N (show D ≠ 0 by omega)
  have h1 := Int.emod_lt_of_pos N hD
  generalize N / D = q at *
  generalize N % D = r at *
  subst e
  rw [gs_of h0 h1 (quo_bd h0 h1 hN)]
  by_cases c : r = 0
  · subst c
    have e2 : D * s - (D * q + 0) = D * (s - q) + 0 := by grind
    rw [e2] at hM ⊢
    rw [gs_of (by omega) hD (quo_bd (by omega) hD hM), if_pos rfl]; omega
  · have e2 : D * s - (D * q + r) = D * (s - q - 1) + (D - r) := by grind
    rw [e2] at hM ⊢
    rw [gs_of (by omega) (by omega) (quo_bd (by omega) (by omega) hM), if_neg c, if_neg (by omega)]; omega

/-- The line of a column, times the column's width. -/
def ln (D a b t : Int) : Int := D * a + (b - a) * t
theorem ln_bd {B : Nat} {D a b t : Int} (h0 : 0 ≤ t) (h1 : t ≤ D) (ha : -B ≤ a ∧ a ≤ B) (hb : -B ≤ b ∧ b ≤ B) : -(D * B) ≤ ln D a b t ∧ ln D a b t ≤ D * B := by
  have e1 : D * B - ln D a b t = (D - t) * (B - a) + t * (B - b) := by unfold ln; grind
  have e2 : ln D a b t + D * B = (D - t) * (B + a) + t * (B + b) := by unfold ln; grind
  have a1 := Int.mul_nonneg (show 0 ≤ D - t by omega) (show 0 ≤ (B : Int) - a by omega)
  have a2 := Int.mul_nonneg h0 (show 0 ≤ (B : Int) - b by omega)
  have a3 := Int.mul_nonneg (show 0 ≤ D - t by omega) (show 0 ≤ (B : Int) + a by omega)
  have a4 := Int.mul_nonneg h0 (show 0 ≤ (B : Int) + b by omega)
  omega
theorem col_sum {B : Nat} {D a b : Int} (d : Nat) (hd : D = d) (hD : 0 < D) (ha : -B ≤ a ∧ a ≤ B) (hb : -B ≤ b ∧ b ≤ B) : sumT (fun t => gs B D (ln D a b t)) (d + 1) = -((D + 1) * (a + b)) := by
  have h1 : sumT (fun t => gs B D (ln D a b t) + gs B D (ln D a b ((d - t : Nat) : Int))) (d + 1) = ((d + 1 : Nat) : Int) * (-2 * (a + b)) := by
    rw [sumT_congr (g := fun _ => -2 * (a + b)), sumT_const]
    intro t ht
    have e : ln D a b ((d - t : Nat) : Int) = D * (a + b) - ln D a b t := by
      rw [show ((d - t : Nat) : Int) = D - t by omega]; unfold ln; grind
    have b1 := ln_bd (D := D) (t := t) (by omega) (by omega) ha hb
    have b2 := ln_bd (D := D) (t := ((d - t : Nat) : Int)) (by omega) (by omega) ha hb
    rw [e] at b2 ⊢
    exact gs_pair hD b1 b2
  have h2 := sumT_flip (fun t => gs B D (ln D a b t)) (d + 1)
  rw [sumT_add] at h1
  simp only [Nat.add_sub_cancel] at h2
  rw [h2] at h1
  rw [show ((d + 1 : Nat) : Int) = D + 1 by omega, show (D + 1) * (-2 * (a + b)) = -2 * ((D + 1) * (a + b)) by grind] at h1
  omega

section
variable {m : Nat} {X L H : Nat → Int}
/-- A column of points. -/
noncomputable def wcol (P : Nat → Int × Int) (n : Nat) (B : Nat) (x : Int) : Int := sumI (fun y => wt P n (x, y)) (-B) (2 * B + 1)
theorem Mono.wcol_in (M : Mono m X L H) {k : Nat} (hk : k + 1 < m) (B : Nat) {x : Int} (h : X k ≤ x ∧ x < X (k + 1)) (h0 : X 0 < x) : wcol (mp m X L H) (2 * m) B x = gs B (X (k + 1) - X k) (ln (X (k + 1) - X k) (L k) (L (k + 1)) (x - X k)) - gs B (X (k + 1) - X k) (ln (X (k + 1) - X k) (H k) (H (k + 1)) (x - X k)) := by
  unfold wcol gs
  rw [← sumI_sub]
  refine sumI_congr fun y _ _ => ?_
  rw [M.wt_in hk (p := (x, y)) h h0]
  have e : ∀ Y : Nat → Int, cl X Y k (x, y) = (X (k + 1) - X k) * y - ln (X (k + 1) - X k) (Y k) (Y (k + 1)) (x - X k) := fun Y => by unfold cl cr ln; simp only; grind
  rw [e L, e H]
open Classical in
theorem count_in {B : Nat} {l h : Int} (hl : -B ≤ l) (hlh : l ≤ h) (hh : h ≤ B) {f : Int → Int} (hf : ∀ y, f y = if l ≤ y ∧ y ≤ h then 1 else 0) : sumI f (-B) (2 * B + 1) = h - l + 1 := by
  obtain ⟨i, hi⟩ : ∃ i : Nat, l = i - B := ⟨(l + B).toNat, by omega⟩
  obtain ⟨j, hj⟩ : ∃ j : Nat, h = l + j := ⟨(h - l).toNat, by omega⟩
  obtain ⟨n, hn⟩ : ∃ n : Nat, 2 * B + 1 = i + ((j + 1) + n) := ⟨2 * B - (i + j), by omega⟩
  rw [hn, sumI_split, sumI_split, sumI_zero, sumI_const 1, sumI_zero]
  · omega
  · intro x h1 h2; rw [hf, if_neg (by omega)]
  · intro x h1 h2; rw [hf, if_pos (by omega)]
  · intro x h1 h2; rw [hf, if_neg (by omega)]
/-- The columns between the first one and the j-th one. -/
theorem Mono.inner (M : Mono m X L H) {B : Nat} (hB : ∀ k, k < m → (-B ≤ L k ∧ L k ≤ B) ∧ (-B ≤ H k ∧ H k ≤ B)) : ∀ j, j + 1 < m →
    sumI (wcol (mp m X L H) (2 * m) B) (X 0 + 1) (X (j + 1) - X 0 - 1).toNat = sumT (trap X L H) (j + 1) - (H 0 - L 0) - (H (j + 1) - L (j + 1)) := by
  have one : ∀ k, k + 1 < m → sumI (wcol (mp m X L H) (2 * m) B) (X k + 1) (X (k + 1) - X k - 1).toNat = trap X L H k - (H k - L k) - (H (k + 1) - L (k + 1)) := by
    intro k hk
    have hi := M.inc k hk
    have h0 := M.le (i := 0) (j := k) (by omega) (by omega)
    obtain ⟨d, hd⟩ : ∃ d : Nat, X (k + 1) - X k = d + 1 := ⟨(X (k + 1) - X k - 1).toNat, by omega⟩
    have e1 : sumI (wcol (mp m X L H) (2 * m) B) (X k + 1) (X (k + 1) - X k - 1).toNat = sumT (fun t => gs B (X (k + 1) - X k) (ln (X (k + 1) - X k) (L k) (L (k + 1)) ((t + 1 : Nat) : Int)) - gs B (X (k + 1) - X k) (ln (X (k + 1) - X k) (H k) (H (k + 1)) ((t + 1 : Nat) : Int))) d := by
      rw [show (X (k + 1) - X k - 1).toNat = d by omega]
      unfold sumI
      refine sumT_congr fun t ht => ?_
      rw [M.wcol_in hk B (x := X k + 1 + t) (by omega) (by omega), show X k + 1 + (t : Int) - X k = ((t + 1 : Nat) : Int) by omega]
    rw [e1, sumT_sub]
    have b1 := hB k (by omega)
    have b2 := hB (k + 1) hk
    have full : ∀ a b : Int, (-B ≤ a ∧ a ≤ B) → (-B ≤ b ∧ b ≤ B) → sumT (fun t => gs B (X (k + 1) - X k) (ln (X (k + 1) - X k) a b ((t + 1 : Nat) : Int))) d = -((X (k + 1) - X k + 1) * (a + b)) + 2 * a + 2 * b := by
      intro a b ha hb
      have e2 := col_sum (D := X (k + 1) - X k) (a := a) (b := b) (B := B) (d + 1) (by omega) (by omega) ha hb
      rw [sumT_first, sumT] at e2
      have e3 : ln (X (k + 1) - X k) a b ((0 : Nat) : Int) = (X (k + 1) - X k) * a := by unfold ln; grind
      have e4 : ln (X (k + 1) - X k) a b ((d + 1 : Nat) : Int) = (X (k + 1) - X k) * b := by rw [show ((d + 1 : Nat) : Int) = X (k + 1) - X k by omega]; unfold ln; grind
      rw [e3, e4, gs_at (by omega) ha, gs_at (by omega) hb] at e2
      omega
    rw [full _ _ b1.1 b2.1, full _ _ b1.2 b2.2]
    unfold trap
    grind
  intro j
  induction j with
  | zero =>
    intro h
    have := one 0 h
    rw [this]
    simp only [sumT]
    omega
  | succ j ih =>
    intro h
    have h1 := ih (by omega)
    have h2 := one (j + 1) h
    have i1 := M.inc (j + 1) h
    have i0 := M.lt (i := 0) (j := j + 1) (by omega) (by omega)
    rw [show (X (j + 1 + 1) - X 0 - 1).toNat = (X (j + 1) - X 0 - 1).toNat + (1 + (X (j + 1 + 1) - X (j + 1) - 1).toNat) by omega, sumI_split, sumI_split, sumI_one, h1]
    rw [show X 0 + 1 + ((X (j + 1) - X 0 - 1).toNat : Int) = X (j + 1) by omega, show X (j + 1) + ((1 : Nat) : Int) = X (j + 1) + 1 by omega, h2]
    rw [M.wcol_in h B (x := X (j + 1)) (by omega) i0, Int.sub_self]
    have e3 : ∀ Y : Nat → Int, ln (X (j + 1 + 1) - X (j + 1)) (Y (j + 1)) (Y (j + 1 + 1)) 0 = (X (j + 1 + 1) - X (j + 1)) * Y (j + 1) := fun Y => by unfold ln; grind
    have b1 := hB (j + 1) (by omega)
    rw [e3 L, e3 H, gs_at (by omega) b1.1, gs_at (by omega) b1.2, sumT.eq_2 (trap X L H) (j + 1)]
    omega
/-- The theorem of Pick. -/
theorem Mono.pick (M : Mono m X L H) {B : Nat} (hB : ∀ k, k < m → (-B ≤ L k ∧ L k ≤ B) ∧ (-B ≤ H k ∧ H k ≤ B)) (hX : -B ≤ X 0 ∧ X (m - 1) ≤ B) :
    sumI (wcol (mp m X L H) (2 * m) B) (-B) (2 * B + 1) = area (mp m X L H) (2 * m) + 2 := by
  have h2 := M.two
  have hlt := M.lt (i := 0) (j := m - 1) (by omega) (by omega)
  obtain ⟨i, hi⟩ : ∃ i : Nat, X 0 = i - B := ⟨(X 0 + B).toNat, by omega⟩
  obtain ⟨n, hn⟩ : ∃ n : Nat, 2 * B + 1 = i + (1 + ((X (m - 1) - X 0 - 1).toNat + (1 + n))) := ⟨(B - X (m - 1)).toNat, by omega⟩
  have hin := M.inner hB (m - 2) (by omega)
  rw [show m - 2 + 1 = m - 1 by omega] at hin
  rw [hn, sumI_split, sumI_split, sumI_split, sumI_split, sumI_one, sumI_one, show (-(B : Int) + i) = X 0 by omega, show X 0 + ((1 : Nat) : Int) = X 0 + 1 by omega, hin, show X 0 + 1 + ((X (m - 1) - X 0 - 1).toNat : Int) = X (m - 1) by omega, area_mono h2]
  rw [sumI_zero, sumI_zero]
  · have b1 := hB 0 (by omega)
    have b2 := hB (m - 1) (by omega)
    have l1 := M.lh 0 (by omega)
    have l2 := M.lh (m - 1) (by omega)
    have e1 : wcol (mp m X L H) (2 * m) B (X 0) = H 0 - L 0 + 1 := count_in (by omega) (by omega) (by omega) (fun y => M.wt_left (p := (X 0, y)) rfl)
    have e2 : wcol (mp m X L H) (2 * m) B (X (m - 1)) = H (m - 1) - L (m - 1) + 1 := count_in (by omega) (by omega) (by omega) (fun y => M.wt_right (p := (X (m - 1), y)) rfl)
    rw [e1, e2]; omega
  · intro x h3 h4
    exact sumI_zero fun y _ _ => M.wt_out (p := (x, y)) (.inr (by show X (m - 1) < x; omega))
  · intro x h3 h4
    exact sumI_zero fun y _ _ => M.wt_out (p := (x, y)) (.inl (by show x < X 0; omega))
end
end Go.Proofs.Ytmldgjhecoeldaa
