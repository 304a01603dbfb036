/- Whether something holds for one of the first k. -/
import Derived.Test.YtmldgjhecoeldaaAny
namespace Go.Proofs.Ytmldgjhecoeldaa
open Go.RowKit Go.Lib

/-- Whether something holds for one of the first k. -/
def anyTo (f : Nat → Bool) : Nat → Bool
  | 0 => false
  | k + 1 => anyTo f k || f k
theorem anyTo_no {f : Nat → Bool} {k : Nat} (h : anyTo f k = false) (g : f k = false) : anyTo f (k + 1) = false := by rw [anyTo, h, g]; rfl
theorem anyTo_yes {f : Nat → Bool} {k n : Nat} (g : f k = true) (h : k < n) : true = anyTo f n := by
  induction n with
  | zero => omega
  | succ n ih =>
    rw [anyTo]
    rcases Nat.lt_or_ge k n with h1 | h1
    · rw [← ih h1]; rfl
    · obtain rfl : k = n := by omega
      rw [g, Bool.or_true]
theorem anyTo_iff {f : Nat → Bool} {n : Nat} : anyTo f n = true ↔ ∃ k, k < n ∧ f k = true := by
  constructor
  · intro h
    induction n with
    | zero => cases h
    | succ n ih =>
      rw [anyTo, Bool.or_eq_true] at h
      rcases h with h | h
      · obtain ⟨k, hk, e⟩ := ih h; exact ⟨k, by omega, e⟩
      · exact ⟨n, by omega, h⟩
  · rintro ⟨k, hk, e⟩
    exact (anyTo_yes e hk).symm
theorem rt_at {ps : List (Int × Int)} {k : Nat} (h : ps.all rtP = true) (hk : k < ps.length) : inl 16384 (pt ps k).1 (pt ps k).2 = true := by
  have := (List.all_eq_true.1 h) (pt ps k) (List.mem_of_getElem? (at_pt hk))
  exact this
theorem rights_is (v : Value) (ps : List (Int × Int)) (w : World) (hv : RowP w v ps) (r : Bool) (h : ps.all rtP = r) :
    Calls Try.prog 53 #[v] w fun e w' => e = .returned (.bool r) ∧ Below w.heap.size w w' := h ▸ rights_any v ps w hv
theorem fine_is (v : Value) (ps : List (Int × Int)) (w : World) (hv : RowP w v ps) (r : Bool) (h : ps.all rtP = r) :
    Calls Try.prog 55 #[v] w fun e w' => e = .returned (.bool r) ∧ Below w.heap.size w w' := h ▸ fine_any v ps w hv

/-- What segments hands back, with its block. -/
theorem segs_has {w w1 : World} {bs : List (Nat × List Value)} {v : Value} {ps : List (Int × Int)} (h : Has w bs w1) (hv : RowP w1 v ps) :
    Calls Try.prog 81 #[v] w1 fun e w' => ∃ B, e = .returned (.func (.func 96) #[] #[.pointer (some ⟨B, 0, none⟩)]) ∧ Has w ((B, [v]) :: bs) w' := by
  obtain ⟨a, cap, rfl, -⟩ := hv
  refine (segments_any _ _ _ _).mono ?_
  rintro e w' ⟨rfl, rfl⟩
  exact ⟨_, rfl, h.push [_] 25⟩

attribute [local go_sem] Oper.semAt_some

end Go.Proofs.Ytmldgjhecoeldaa
