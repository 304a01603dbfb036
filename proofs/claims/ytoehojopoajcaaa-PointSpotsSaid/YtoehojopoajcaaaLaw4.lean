/- Words for regions that make memory in any order; lists of movers and spots. -/
import Derived.Test.YtoehojopoajcaaaLaw
import Derived.Test.YtoehojopoajcaaaSpotS
import Derived.Test.YtoehojopoajcaaaRSpotS
import Derived.Test.YtoehojopoajcaaaMove
import Derived.Test.YtoehojopoajcaaaRMove
import Derived.Test.YtoehojopoajcaaaHeld
namespace Go.Proofs.Ytoehojopoajcaaa
open Go.RowKit Go.Lib

theorem Has.m83 {w0 w : World} {bs : List (Nat × List Value)} {A B : Nat} {c0 c1 c2 c3 c4 c5 c6 c7 d0 d1 d2 : Value} (h : Has w0 ((A, [c0, c1, c2, c3, c4, c5, c6, c7]) :: (B, [d0, d1, d2]) :: bs) w) :
    (w.cell? ⟨A, 0, none⟩ = some c0 ∧ w.cell? ⟨A, 1, none⟩ = some c1 ∧ w.cell? ⟨A, 2, none⟩ = some c2 ∧ w.cell? ⟨A, 3, none⟩ = some c3 ∧ w.cell? ⟨A, 4, none⟩ = some c4 ∧ w.cell? ⟨A, 5, none⟩ = some c5 ∧ w.cell? ⟨A, 6, none⟩ = some c6 ∧ w.cell? ⟨A, 7, none⟩ = some c7 ∧ w.cell? ⟨B, 0, none⟩ = some d0 ∧ w.cell? ⟨B, 1, none⟩ = some d1 ∧ w.cell? ⟨B, 2, none⟩ = some d2) ∧ Has w0 ((A, [c0, c1, c2, c3, c4, c5, c6, c7]) :: (B, [d0, d1, d2]) :: bs) w :=
  ⟨⟨h.fact (.head _) (i := 0) rfl, h.fact (.head _) (i := 1) rfl, h.fact (.head _) (i := 2) rfl, h.fact (.head _) (i := 3) rfl, h.fact (.head _) (i := 4) rfl, h.fact (.head _) (i := 5) rfl, h.fact (.head _) (i := 6) rfl, h.fact (.head _) (i := 7) rfl, h.tail.fact (.head _) (i := 0) rfl, h.tail.fact (.head _) (i := 1) rfl, h.tail.fact (.head _) (i := 2) rfl⟩, h⟩
theorem Has.m38 {w0 w : World} {bs : List (Nat × List Value)} {A B : Nat} {c0 c1 c2 d0 d1 d2 d3 d4 d5 d6 d7 : Value} (h : Has w0 ((A, [c0, c1, c2]) :: (B, [d0, d1, d2, d3, d4, d5, d6, d7]) :: bs) w) :
    (w.cell? ⟨A, 0, none⟩ = some c0 ∧ w.cell? ⟨A, 1, none⟩ = some c1 ∧ w.cell? ⟨A, 2, none⟩ = some c2 ∧ w.cell? ⟨B, 0, none⟩ = some d0 ∧ w.cell? ⟨B, 1, none⟩ = some d1 ∧ w.cell? ⟨B, 2, none⟩ = some d2 ∧ w.cell? ⟨B, 3, none⟩ = some d3 ∧ w.cell? ⟨B, 4, none⟩ = some d4 ∧ w.cell? ⟨B, 5, none⟩ = some d5 ∧ w.cell? ⟨B, 6, none⟩ = some d6 ∧ w.cell? ⟨B, 7, none⟩ = some d7) ∧ Has w0 ((A, [c0, c1, c2]) :: (B, [d0, d1, d2, d3, d4, d5, d6, d7]) :: bs) w :=
  ⟨⟨h.fact (.head _) (i := 0) rfl, h.fact (.head _) (i := 1) rfl, h.fact (.head _) (i := 2) rfl, h.tail.fact (.head _) (i := 0) rfl, h.tail.fact (.head _) (i := 1) rfl, h.tail.fact (.head _) (i := 2) rfl, h.tail.fact (.head _) (i := 3) rfl, h.tail.fact (.head _) (i := 4) rfl, h.tail.fact (.head _) (i := 5) rfl, h.tail.fact (.head _) (i := 6) rfl, h.tail.fact (.head _) (i := 7) rfl⟩, h⟩

section
variable {P : Program} {md : Region.Mode} {ops : Array Oper} {Q : Exit → Act → World → Prop} {S : World → Prop}
theorem wpAnyH_cast {fuel fuel' : Nat} {l l' : Array Bool} {a a' : Act} {w : World} (hf : fuel = fuel') (hl : l = l') (ha : a = a') (h : wpAnyH P md ops Q S fuel' l' a' w) : wpAnyH P md ops Q S fuel l a w := by
  rw [hf, hl, ha]; exact h
/-- Where operations come up in any order: a state x says what has come up. -/
theorem any_ind {X : Type} {n : X → Nat} {l : X → Array Bool} {u : X → Act → Act} {I : X → World → Prop} {m fuel : Nat} {listed : Array Bool} {act : Act} {w : World} (x0 : X)
    (h0 : listed = l x0) (ha : act = u x0 act) (hn : fuel = n x0 + m) (hI : I x0 w)
    (h : ∀ k, (∀ x w, n x = k → I x w → wpAnyH P md ops Q S (k + m) (l x) (u x act) w) → ∀ x w, n x = k + 1 → I x w → wpAnyH P md ops Q S (k + m + 1) (l x) (u x act) w)
    (hz : ∀ x w, n x = 0 → I x w → wpAnyH P md ops Q S m (l x) (u x act) w) : wpAnyH P md ops Q S fuel listed act w := by
  have all : ∀ k x w, n x = k → I x w → wpAnyH P md ops Q S (k + m) (l x) (u x act) w := by
    intro k
    induction k with
    | zero => intro x w hx hi; rw [Nat.zero_add]; exact hz x w hx hi
    | succ k ih => intro x w hx hi; rw [Nat.add_right_comm]; exact h k ih x w hx hi
  exact wpAnyH_cast hn h0 ha (all _ x0 w rfl hI)
end
/-- A block that may have been made. -/
def bl (z : List Value) : Option Nat → List (Nat × List Value) → List (Nat × List Value)
  | none, bs => bs
  | some p, bs => (p, z) :: bs
/-- Three blocks made, and three calls done, in any order. -/
structure St where
  a : Option Nat
  b : Option Nat
  c : Option Nat
  n : Nat
def St.left (x : St) : Nat := (3 - x.n) + (if x.a.isSome then 0 else 1) + (if x.b.isSome then 0 else 1) + (if x.c.isSome then 0 else 1)
def putp (s : Nat) : Option Nat → Act → Act
  | none, a => a
  | some p, a => a.put (some s) (.pointer (some ⟨p, 0, none⟩))
def putc (s : Nat) (v : Value) : Bool → Act → Act
  | false, a => a
  | true, a => a.put (some s) v

theorem cut_is (x y z p q r : Int) (h0 : cutX x z = p) (h1 : cutX y z = q) (h2 : cutD z = r) (w : World) :
    Calls Try.prog 36 #[.agg #[.int .i64 x, .int .i64 y, .int .i64 z]] w fun e w' => e = .returned (.agg #[.int .i64 p, .int .i64 q, .int .i64 r]) ∧ Below w.heap.size w w' := by
  subst h0 h1 h2; exact cut_any x y z w
theorem rmove_is (a0 a1 a2 b0 b1 b2 fn fd r s t : Int) (u : Bool) (h0 : mv0 a0 a1 a2 b0 b1 b2 fn fd = r) (h1 : mv1 a0 a1 a2 b0 b1 b2 fn fd = s) (h2 : mv2 a0 a1 a2 b0 b1 b2 fn fd = t) (h3 : mvI a0 a1 a2 b0 b1 b2 fn fd = u) (w : World) :
    Calls Try.prog 39 #[.agg #[.int .i64 a0, .int .i64 a1, .int .i64 a2], .agg #[.int .i64 b0, .int .i64 b1, .int .i64 b2], .agg #[.int .i64 fn, .int .i64 fd]] w fun e w' => e = .returned (.tuple #[.agg #[.int .i64 r, .int .i64 s, .int .i64 t], .bool u]) ∧ Below w.heap.size w w' := by
  have := rmove_any a0 a1 a2 b0 b1 b2 fn fd w
  rw [h0, h1, h2, h3] at this
  exact this
/-- A list of movers, and of spots. -/
def Octs (L : List Value) (n : Nat) : Prop := ∀ k : Nat, k < n → ∃ a b c d e f g h : Int, L[k * 8]? = some (.int .i64 a) ∧ L[k * 8 + 1]? = some (.int .i64 b) ∧ L[k * 8 + 2]? = some (.int .i64 c) ∧ L[k * 8 + 3]? = some (.int .i64 d) ∧ L[k * 8 + 4]? = some (.int .i64 e) ∧ L[k * 8 + 5]? = some (.int .i64 f) ∧ L[k * 8 + 6]? = some (.int .i64 g) ∧ L[k * 8 + 7]? = some (.int .i64 h)
def Trips (L : List Value) (n : Nat) : Prop := ∀ k : Nat, k < n → ∃ a b c : Int, L[k * 3]? = some (.int .i64 a) ∧ L[k * 3 + 1]? = some (.int .i64 b) ∧ L[k * 3 + 2]? = some (.int .i64 c)
theorem octs5 (a0 a1 a2 a3 a4 a5 a6 a7 a8 a9 a10 a11 a12 a13 a14 a15 a16 a17 a18 a19 a20 a21 a22 a23 a24 a25 a26 a27 a28 a29 a30 a31 a32 a33 a34 a35 a36 a37 a38 a39 : Int) : Octs (.int .i64 a0 :: .int .i64 a1 :: .int .i64 a2 :: .int .i64 a3 :: .int .i64 a4 :: .int .i64 a5 :: .int .i64 a6 :: .int .i64 a7 :: .int .i64 a8 :: .int .i64 a9 :: .int .i64 a10 :: .int .i64 a11 :: .int .i64 a12 :: .int .i64 a13 :: .int .i64 a14 :: .int .i64 a15 :: .int .i64 a16 :: .int .i64 a17 :: .int .i64 a18 :: .int .i64 a19 :: .int .i64 a20 :: .int .i64 a21 :: .int .i64 a22 :: .int .i64 a23 :: .int .i64 a24 :: .int .i64 a25 :: .int .i64 a26 :: .int .i64 a27 :: .int .i64 a28 :: .int .i64 a29 :: .int .i64 a30 :: .int .i64 a31 :: .int .i64 a32 :: .int .i64 a33 :: .int .i64 a34 :: .int .i64 a35 :: .int .i64 a36 :: .int .i64 a37 :: .int .i64 a38 :: .int .i64 a39 :: []) 5 := by
  intro k hk
  match k, hk with
  | 0, _ => exact ⟨a0, a1, a2, a3, a4, a5, a6, a7, rfl, rfl, rfl, rfl, rfl, rfl, rfl, rfl⟩
  | 1, _ => exact ⟨a8, a9, a10, a11, a12, a13, a14, a15, rfl, rfl, rfl, rfl, rfl, rfl, rfl, rfl⟩
  | 2, _ => exact ⟨a16, a17, a18, a19, a20, a21, a22, a23, rfl, rfl, rfl, rfl, rfl, rfl, rfl, rfl⟩
  | 3, _ => exact ⟨a24, a25, a26, a27, a28, a29, a30, a31, rfl, rfl, rfl, rfl, rfl, rfl, rfl, rfl⟩
  | 4, _ => exact ⟨a32, a33, a34, a35, a36, a37, a38, a39, rfl, rfl, rfl, rfl, rfl, rfl, rfl, rfl⟩
theorem trips3 (a0 a1 a2 a3 a4 a5 a6 a7 a8 : Int) : Trips [.int .i64 a0, .int .i64 a1, .int .i64 a2, .int .i64 a3, .int .i64 a4, .int .i64 a5, .int .i64 a6, .int .i64 a7, .int .i64 a8] 3 := by
  intro k hk
  match k, hk with
  | 0, _ => exact ⟨a0, a1, a2, rfl, rfl, rfl⟩
  | 1, _ => exact ⟨a3, a4, a5, rfl, rfl, rfl⟩
  | 2, _ => exact ⟨a6, a7, a8, rfl, rfl, rfl⟩

end Go.Proofs.Ytoehojopoajcaaa
