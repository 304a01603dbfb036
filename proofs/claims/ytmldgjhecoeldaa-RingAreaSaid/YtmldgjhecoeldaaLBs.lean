/- Words for the laws of the ring. -/
import Derived.Test.YtmldgjhecoeldaaGm
import Derived.Test.YtmldgjhecoeldaaSn
import Derived.Test.YtmldgjhecoeldaaRIns
namespace Go.Proofs.Ytmldgjhecoeldaa
open Go.RowKit Go.Lib

theorem Own.empty {w : World} (n : Nat) (hn : w.heap.size = n) : Own n (w.alloc (.cells #[] 24)) (.slice (some ⟨n, 0, none⟩) 0 0) [] := by
  subst hn
  refine ⟨rfl, .inr ⟨w.heap.size, 0, #[], rfl, Nat.le_refl _, ?_, Nat.le_refl _, Nat.zero_le _, rfl, rfl⟩⟩
  exact World.alloc_heap_new w _
theorem c14 (v : Value) (ps : List (Int × Int)) (w : World) (hv : RowP w v ps) (r : Int) (h : rchkP ps = r) : Calls Try.prog 14 #[v] w fun e w' => e = .returned (.int .i64 r) ∧ Below w.heap.size w w' := h ▸ ringcheck_any v ps w hv
theorem c15 (v : Value) (ps : List (Int × Int)) (w : World) (hv : RowP w v ps) (r : Int) (h : rchkP ps = r) : Calls Try.prog 15 #[v] w fun e w' => e = .returned (.int .i64 r) ∧ Below w.heap.size w w' := h ▸ rringcheck_any v ps w hv
theorem c17 (v : Value) (ps : List (Int × Int)) (w : World) (hv : RowP w v ps) (r : Int) (h : areaP ps = r) : Calls Try.prog 17 #[v] w fun e w' => e = .returned (.int .i64 r) ∧ Below w.heap.size w w' := h ▸ rarea_any v ps w hv
theorem tmod_abs (x n : Int) (hn : 1 ≤ n) : -n < x.tmod n ∧ x.tmod n < n := ⟨Int.lt_tmod_of_pos x (by omega), Int.tmod_lt_of_pos x (by omega)⟩
theorem idx_of (n : Int) (N : Nat) (h : 0 ≤ n) (hN : 0 < N) : ∃ i : Nat, n.tmod (N : Int) = (i : Int) ∧ i < N := by
  have h1 := Int.tmod_lt_of_pos n (show (0 : Int) < N by omega)
  have h2 : 0 ≤ n.tmod (N : Int) := Int.tmod_nonneg _ h
  exact ⟨(n.tmod (N : Int)).toNat, by omega, by omega⟩
theorem MadeR.facts {r : List (Int × Int)} (h : MadeR r) : 3 ≤ r.length ∧ r.length ≤ 10 ∧ rchkP r = 0 := by
  obtain ⟨m, t, X, L, H, hM⟩ := h.m
  have ok := hM.ok
  have h3 := (rchk_ok.1 ok).1
  obtain ⟨m', t', X', L', H', -, hm, -, -, hl, -⟩ := h
  exact ⟨h3.1, by omega, ok⟩
/-- A list of points with both coordinates cut. -/
def cutN (n : Int) (l : List (Int × Int)) : List (Int × Int) := l.map fun p => (p.1.tmod n, p.2.tmod n)
theorem map_next {f : Int × Int → Int × Int} {l : List (Int × Int)} {k : Nat} {p : Int × Int} (h : l[k]? = some p) : (l.map f).take k ++ [f p] = (l.map f).take (k + 1) := by
  rw [List.take_add_one, List.getElem?_map, h]; rfl
theorem row_form {w : World} {v : Value} {l : List (Int × Int)} (h : RowP w v l) : ∃ a c, v = .slice a l.length c := by
  obtain ⟨a, c, h1, -⟩ := h
  exact ⟨a, c, h1⟩

end Go.Proofs.Ytmldgjhecoeldaa
