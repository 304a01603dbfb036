/- Words for the law of sums. -/
import Derived.Test.YtoehojopoajcaaaRBx
import Derived.Test.YtoehojopoajcaaaLaw
namespace Go.Proofs.Ytoehojopoajcaaa
open Go.RowKit Go.Lib

theorem RowP.take {w : World} {a : Option Addr} {n cap : Nat} {ps : List (Int × Int)} (h : RowP w (.slice a n cap) ps) {k : Nat} (hk : k ≤ ps.length) : RowP w (.slice a k cap) (ps.take k) := by
  obtain ⟨a', cap', h1, h2, h3, h4⟩ := h
  injection h1 with e1 e2 e3
  subst e1 e2 e3
  have hl : (ps.take k).length = k := by rw [List.length_take]; omega
  refine ⟨a, cap, by rw [hl], by rw [hl]; omega, h3, ?_⟩
  rcases h4 with rfl | ⟨b, o, e, h⟩
  · exact .inl (by simp)
  · refine .inr ⟨b, o, e, fun i p hp => h i p ?_⟩
    rw [List.getElem?_take] at hp
    split at hp
    · exact hp
    · cases hp
theorem OkP.take {ps : List (Int × Int)} (h : OkP ps) (k : Nat) : OkP (ps.take k) := fun p hp => h p (List.mem_of_mem_take hp)
theorem box_is (v : Value) (ps : List (Int × Int)) (b0 b1 b2 b3 : Int) (h : bxo ps = ((b0, b1), (b2, b3))) (w : World) (hv : RowP w v ps) :
    Calls Try.prog 24 #[v] w fun e w' => e = .returned (.agg #[.int .i64 b0, .int .i64 b1, .int .i64 b2, .int .i64 b3]) ∧ Below w.heap.size w w' := by
  have := box_any v ps w hv
  rw [h] at this
  exact this
theorem rbox_is (v : Value) (ps : List (Int × Int)) (b0 b1 b2 b3 : Int) (h : bxo ps = ((b0, b1), (b2, b3))) (w : World) (hv : RowP w v ps) (hok : OkP ps) :
    Calls Try.prog 25 #[v] w fun e w' => e = .returned (.agg #[.int .i64 b0, .int .i64 b1, .int .i64 b2, .int .i64 b3]) ∧ Below w.heap.size w w' := by
  have := rbox_any v ps w hv hok
  rw [h] at this
  exact this
theorem right_is (x y : Int) (r : Bool) (h : inl 16384 x y = r) (w : World) :
    Calls Try.prog 10 #[.agg #[.int .i64 x, .int .i64 y]] w fun e w' => e = .returned (.bool r) ∧ Below w.heap.size w w' := h ▸ right_any x y w
theorem near_is (a0 a1 a2 a3 b0 b1 b2 b3 : Int) (r : Bool) (h : nearOf a0 a1 a2 a3 b0 b1 b2 b3 = r) (w : World) :
    Calls Try.prog 26 #[.agg #[.int .i64 a0, .int .i64 a1, .int .i64 a2, .int .i64 a3], .agg #[.int .i64 b0, .int .i64 b1, .int .i64 b2, .int .i64 b3]] w fun e w' => e = .returned (.bool r) ∧ Below w.heap.size w w' := h ▸ near_any a0 a1 a2 a3 b0 b1 b2 b3 w
theorem cross_is (a b c d s : Int) (h : wrap64 (wrap64 (a * d) - wrap64 (b * c)) = s) (w : World) :
    Calls Try.prog 16 #[.agg #[.int .i64 a, .int .i64 b], .agg #[.int .i64 c, .int .i64 d]] w fun e w' => e = .returned (.int .i64 s) ∧ Below w.heap.size w w' := h ▸ cross_any a b c d w
theorem dot_is (a b c d s : Int) (h : wrap64 (wrap64 (a * c) + wrap64 (b * d)) = s) (w : World) :
    Calls Try.prog 18 #[.agg #[.int .i64 a, .int .i64 b], .agg #[.int .i64 c, .int .i64 d]] w fun e w' => e = .returned (.int .i64 s) ∧ Below w.heap.size w w' := h ▸ dot_any a b c d w
theorem sub_is (a b c d p q : Int) (h0 : wrap64 (a - c) = p) (h1 : wrap64 (b - d) = q) (w : World) :
    Calls Try.prog 14 #[.agg #[.int .i64 a, .int .i64 b], .agg #[.int .i64 c, .int .i64 d]] w fun e w' => e = .returned (.agg #[.int .i64 p, .int .i64 q]) ∧ Below w.heap.size w w' := by
  have := sub_any a b c d w
  rw [h0, h1] at this
  exact this
theorem rright_is (x y : Int) (r : Bool) (h : inl 16384 x y = r) (w : World) :
    Calls Try.prog 11 #[.agg #[.int .i64 x, .int .i64 y]] w fun e w' => e = .returned (.bool r) ∧ Below w.heap.size w w' := h ▸ rright_any x y w
theorem rnear_is (a0 a1 a2 a3 b0 b1 b2 b3 : Int) (r : Bool) (h : nearOf a0 a1 a2 a3 b0 b1 b2 b3 = r) (w : World) :
    Calls Try.prog 27 #[.agg #[.int .i64 a0, .int .i64 a1, .int .i64 a2, .int .i64 a3], .agg #[.int .i64 b0, .int .i64 b1, .int .i64 b2, .int .i64 b3]] w fun e w' => e = .returned (.bool r) ∧ Below w.heap.size w w' := h ▸ rnear_any a0 a1 a2 a3 b0 b1 b2 b3 w
theorem rcross_is (a b c d s : Int) (h : wrap64 (wrap64 (a * d) - wrap64 (b * c)) = s) (w : World) :
    Calls Try.prog 17 #[.agg #[.int .i64 a, .int .i64 b], .agg #[.int .i64 c, .int .i64 d]] w fun e w' => e = .returned (.int .i64 s) ∧ Below w.heap.size w w' := h ▸ rcross_any a b c d w
theorem rdot_is (a b c d s : Int) (h : wrap64 (wrap64 (a * c) + wrap64 (b * d)) = s) (w : World) :
    Calls Try.prog 19 #[.agg #[.int .i64 a, .int .i64 b], .agg #[.int .i64 c, .int .i64 d]] w fun e w' => e = .returned (.int .i64 s) ∧ Below w.heap.size w w' := h ▸ rdot_any a b c d w
theorem rsub_is (a b c d p q : Int) (h0 : wrap64 (a - c) = p) (h1 : wrap64 (b - d) = q) (w : World) :
    Calls Try.prog 15 #[.agg #[.int .i64 a, .int .i64 b], .agg #[.int .i64 c, .int .i64 d]] w fun e w' => e = .returned (.agg #[.int .i64 p, .int .i64 q]) ∧ Below w.heap.size w w' := by
  have := rsub_any a b c d w
  rw [h0, h1] at this
  exact this
theorem radd_is (a b c d p q : Int) (h0 : wrap64 (a + c) = p) (h1 : wrap64 (b + d) = q) (w : World) :
    Calls Try.prog 13 #[.agg #[.int .i64 a, .int .i64 b], .agg #[.int .i64 c, .int .i64 d]] w fun e w' => e = .returned (.agg #[.int .i64 p, .int .i64 q]) ∧ Below w.heap.size w w' := by
  have := radd_any a b c d w
  rw [h0, h1] at this
  exact this
theorem rturn_is (x y n p q : Int) (h0 : rotN (n % 4).toNat x y = (p, q)) (w : World) :
    Calls Try.prog 21 #[.agg #[.int .i64 x, .int .i64 y], .int .i64 n] w fun e w' => e = .returned (.agg #[.int .i64 p, .int .i64 q]) ∧ Below w.heap.size w w' := by
  have := rturn_any x y n w
  rw [h0] at this
  exact this

end Go.Proofs.Ytoehojopoajcaaa
