/- On which side of a line a point lies: point.side at both of its types, Side, SpotSide, and those of the reference. -/
import Derived.Test.YtmldgjhecoeldaaPts
namespace Go.Proofs.Ytmldgjhecoeldaa
open Go.RowKit Go.Lib

section
variable {w0 w : World} {bs : List (Nat × List Value)}
theorem Has.pt0 {A : Nat} {a b : Value} {l : List Value} (h : Has w0 ((A, a :: b :: l) :: bs) w) : w.cell? ⟨A, 0, none⟩ = some a ∧ w.cell? ⟨A, 1, none⟩ = some b := ⟨h.fact (.head _) (i := 0) rfl, h.fact (.head _) (i := 1) rfl⟩
theorem Has.ptf0 {A : Nat} {a b : Value} {l : List Value} (h : Has w0 ((A, a :: b :: l) :: bs) w) : w.frozen? ⟨A, 0, none⟩ = false ∧ w.frozen? ⟨A, 1, none⟩ = false := ⟨h.free (.head _) (i := 0) rfl, h.free (.head _) (i := 1) rfl⟩
end

theorem Has.lt0 {w0 w : World} {bs : List (Nat × List Value)} {A : Nat} {l : List Value} (h : Has w0 ((A, l) :: bs) w) : A < w.heap.size := h.lt (A, l) (.head _)

theorem Has.ne2 {w0 w : World} {bs : List (Nat × List Value)} {A B : Nat} {l m : List Value} (h : Has w0 ((A, l) :: (B, m) :: bs) w) : A ≠ B ∧ B ≠ A := ⟨(List.pairwise_cons.1 h.nd).1 (B, m) (.head _), fun e => (List.pairwise_cons.1 h.nd).1 (B, m) (.head _) e.symm⟩

theorem Has.push2 {w0 w : World} {bs : List (Nat × List Value)} (h : Has w0 bs w) (xs ys : List Value) (T U : TypeId) : Has w0 ((w.heap.size + 1, ys) :: (w.heap.size, xs) :: bs) ((w.alloc (.cells xs.toArray T)).alloc (.cells ys.toArray U)) := by
  have := (h.push xs T).push ys U
  rw [size_alloc] at this
  exact this

def Bd (m x y : Int) : Prop := -m ≤ x ∧ x ≤ m ∧ -m ≤ y ∧ y ≤ m
theorem inl_bd {m x y : Int} (h : inl m x y = true) : Bd m x y := inl_iff.1 h

/-- On which side of the line from a to b the point p lies. -/
def crs (a0 a1 b0 b1 p0 p1 : Int) : Int := (b0 - a0) * (p1 - a1) - (b1 - a1) * (p0 - a0)
def sideOf (a0 a1 b0 b1 p0 p1 : Int) : Int := if inl 1152921504606846976 a0 a1 = true ∧ inl 1152921504606846976 b0 b1 = true ∧ inl 1152921504606846976 p0 p1 = true then (crs a0 a1 b0 b1 p0 p1).sign else 0
theorem sideOf_no0 (a0 a1 b0 b1 p0 p1 : Int) (h : inl 1152921504606846976 a0 a1 = false) : 0 = sideOf a0 a1 b0 b1 p0 p1 := by unfold sideOf; rw [if_neg (by rw [h]; simp)]
theorem sideOf_no1 (a0 a1 b0 b1 p0 p1 : Int) (h : inl 1152921504606846976 b0 b1 = false) : 0 = sideOf a0 a1 b0 b1 p0 p1 := by unfold sideOf; rw [if_neg (by rw [h]; simp)]
theorem sideOf_no2 (a0 a1 b0 b1 p0 p1 : Int) (h : inl 1152921504606846976 p0 p1 = false) : 0 = sideOf a0 a1 b0 b1 p0 p1 := by unfold sideOf; rw [if_neg (by rw [h]; simp)]
theorem sideOf_yes (a0 a1 b0 b1 p0 p1 : Int) (h : inl 1152921504606846976 a0 a1 = true) (k : inl 1152921504606846976 b0 b1 = true) (l : inl 1152921504606846976 p0 p1 = true) : ((b0 - a0) * (p1 - a1) - (b1 - a1) * (p0 - a0)).sign = sideOf a0 a1 b0 b1 p0 p1 := by
  unfold sideOf crs; rw [if_pos ⟨h, k, l⟩]
def I64 (x : Int) : Prop := -9223372036854775808 ≤ x ∧ x ≤ 9223372036854775807
theorem inl_all {a0 a1 b0 b1 p0 p1 : Int} (h : inl 1152921504606846976 a0 a1 = true) (k : inl 1152921504606846976 b0 b1 = true) (l : inl 1152921504606846976 p0 p1 = true) :
    Bd 1152921504606846976 b0 b1 ∧ Bd 1152921504606846976 a0 a1 ∧ Bd 1152921504606846976 p0 p1 ∧ I64 (b0 - a0) ∧ I64 (p1 - a1) ∧ I64 (b1 - a1) ∧ I64 (p0 - a0) := by
  have h := inl_bd h
  have k := inl_bd k
  have l := inl_bd l
  refine ⟨k, h, l, ?_, ?_, ?_, ?_⟩ <;> unfold Bd at h k l <;> unfold I64 <;> omega

theorem bounded_is (x y : Int) (r : Bool) (h : inl 1152921504606846976 x y = r) (w : World) :
    Calls Try.prog 63 #[.agg #[.int .i64 x, .int .i64 y]] w fun e w' => e = .returned (.bool r) ∧ Below w.heap.size w w' := h ▸ bounded_any x y w
theorem rbounded_is (x y : Int) (r : Bool) (h : inl 1152921504606846976 x y = r) (w : World) :
    Calls Try.prog 65 #[.agg #[.int .i64 x, .int .i64 y]] w fun e w' => e = .returned (.bool r) ∧ Below w.heap.size w w' := h ▸ rbounded_any x y w
theorem sub_bd (b0 b1 a0 a1 : Int) (w : World) (hb : Bd 1152921504606846976 b0 b1) (ha : Bd 1152921504606846976 a0 a1) :
    Calls Try.prog 68 #[.agg #[.int .i64 b0, .int .i64 b1], .agg #[.int .i64 a0, .int .i64 a1]] w fun e w' => e = .returned (.agg #[.int .i64 (b0 - a0), .int .i64 (b1 - a1)]) ∧ Below w.heap.size w w' := by
  have h := sub_any b0 b1 a0 a1 w
  unfold Bd at ha hb
  rw [IntWalk.wrap64_in _ ⟨by omega, by omega⟩, IntWalk.wrap64_in _ ⟨by omega, by omega⟩] at h
  exact h
theorem rsub_bd (b0 b1 a0 a1 : Int) (w : World) (hb : Bd 1152921504606846976 b0 b1) (ha : Bd 1152921504606846976 a0 a1) :
    Calls Try.prog 70 #[.agg #[.int .i64 b0, .int .i64 b1], .agg #[.int .i64 a0, .int .i64 a1]] w fun e w' => e = .returned (.agg #[.int .i64 (b0 - a0), .int .i64 (b1 - a1)]) ∧ Below w.heap.size w w' := by
  have h := rsub_any b0 b1 a0 a1 w
  unfold Bd at ha hb
  rw [IntWalk.wrap64_in _ ⟨by omega, by omega⟩, IntWalk.wrap64_in _ ⟨by omega, by omega⟩] at h
  exact h

end Go.Proofs.Ytmldgjhecoeldaa
