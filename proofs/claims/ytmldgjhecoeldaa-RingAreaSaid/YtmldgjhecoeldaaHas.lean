/- Blocks of the call's own, as a list: what they hold, through calls, allocations, draws and stores. -/
import Derived.Test.YtmldgjhecoeldaaBase
import Derived.Deep.RegionHeld3
import Derived.Deep.RegionWith
import Derived.Deep.DeepCutAuto
import Derived.Deep.CutBlock
namespace Go.Proofs.Ytmldgjhecoeldaa
open Go.RowKit Go.Lib

/-- Each of these blocks is one of the call's own, no two are the same, and each begins with its cells; below the first heap's size nothing has turned. -/
structure Has (w0 : World) (bs : List (Nat × List Value)) (w : World) : Prop where
  c : ∀ p, p ∈ bs → Cells w p.1 p.2
  lt : ∀ p, p ∈ bs → p.1 < w.heap.size
  ge : ∀ p, p ∈ bs → w0.heap.size ≤ p.1
  nd : bs.Pairwise fun p q => p.1 ≠ q.1
  low : Below w0.heap.size w0 w

section
variable {w0 w w' : World} {bs : List (Nat × List Value)}
theorem Has.nil (h : Below w0.heap.size w0 w) : Has w0 [] w := ⟨fun _ h => (by cases h), fun _ h => (by cases h), fun _ h => (by cases h), .nil, h⟩
theorem Has.later (h : Has w0 bs w) (hb : Below w.heap.size w w') : Has w0 bs w' :=
  ⟨fun p hp => (h.c p hp).later hb (h.lt p hp), fun p hp => Nat.lt_of_lt_of_le (h.lt p hp) hb.size, h.ge, h.nd, h.low.trans (hb.mono h.low.size)⟩
theorem Has.alloc (h : Has w0 bs w) (o : Obj) : Has w0 bs (w.alloc o) := h.later ((Below.refl _ w).alloc (Nat.le_refl _) o)
theorem Has.drew (h : Has w0 bs w) : Has w0 bs w.drew := h.later ((Below.refl _ w).drew)
theorem Has.drewN (h : Has w0 bs w) (n : Nat) : Has w0 bs (w.drewN n) := h.later (below_drewN (Below.refl _ w) n)
theorem Has.push (h : Has w0 bs w) (xs : List Value) (T : TypeId) : Has w0 ((w.heap.size, xs) :: bs) (w.alloc (.cells xs.toArray T)) := by
  refine ⟨fun p hp => ?_, fun p hp => ?_, fun p hp => ?_, ?_, (h.alloc _).low⟩
  · rcases List.mem_cons.1 hp with rfl | hp
    · exact Cells.made w xs T
    · exact (h.alloc _).c p hp
  · rcases List.mem_cons.1 hp with rfl | hp
    · simp
    · exact (h.alloc _).lt p hp
  · rcases List.mem_cons.1 hp with rfl | hp
    · exact h.low.size
    · exact h.ge p hp
  · exact List.pairwise_cons.2 ⟨fun p hp e => by have := h.lt p hp; simp only at e; omega, h.nd⟩
theorem Has.fact (h : Has w0 bs w) {p : Nat × List Value} (hp : p ∈ bs) {i : Nat} {v : Value} (hv : p.2[i]? = some v) : w.cell? ⟨p.1, i, none⟩ = some v := ((h.c p hp).get i hv).1
theorem Has.free (h : Has w0 bs w) {p : Nat × List Value} (hp : p ∈ bs) {i : Nat} {v : Value} (hv : p.2[i]? = some v) : w.frozen? ⟨p.1, i, none⟩ = false := ((h.c p hp).get i hv).2
theorem Has.tail {p : Nat × List Value} (h : Has w0 (p :: bs) w) : Has w0 bs w :=
  ⟨fun q hq => h.c q (.tail _ hq), fun q hq => h.lt q (.tail _ hq), fun q hq => h.ge q (.tail _ hq), (List.pairwise_cons.1 h.nd).2, h.low⟩
theorem Has.perm {cs : List (Nat × List Value)} (h : Has w0 bs w) (hp : bs.Perm cs) : Has w0 cs w :=
  ⟨fun q hq => h.c q (hp.mem_iff.2 hq), fun q hq => h.lt q (hp.mem_iff.2 hq), fun q hq => h.ge q (hp.mem_iff.2 hq), (hp.pairwise_iff fun {_ _} h => Ne.symm h).1 h.nd, h.low⟩
theorem Has.swap {p q : Nat × List Value} (h : Has w0 (p :: q :: bs) w) : Has w0 (q :: p :: bs) w := h.perm (.swap _ _ _)
/-- The third is the first. -/
theorem Has.third {p q r : Nat × List Value} (h : Has w0 (p :: q :: r :: bs) w) : Has w0 (r :: p :: q :: bs) w := h.perm ((List.Perm.cons _ (.swap _ _ _)).trans (.swap _ _ _))
theorem Has.set {b : Nat} {xs : List Value} (h : Has w0 ((b, xs) :: bs) w) (k : Nat) (hk : k < xs.length) (u : Value) : Has w0 ((b, xs.set k u) :: bs) (w.setCell ⟨b, k, none⟩ u) := by
  have hge := h.ge (b, xs) (.head _)
  have hnd := List.pairwise_cons.1 h.nd
  refine ⟨fun p hp => ?_, fun p hp => ?_, fun p hp => ?_, List.pairwise_cons.2 ⟨fun p hp => hnd.1 p hp, hnd.2⟩, h.low.setCell (p := ⟨b, k, none⟩) hge u⟩
  · rcases List.mem_cons.1 hp with rfl | hp
    · exact (h.c (b, xs) (.head _)).set k hk u
    · have hn := hnd.1 p hp
      intro i v hv
      obtain ⟨g1, g2⟩ := h.c p (.tail _ hp) i v hv
      refine ⟨?_, by rw [World.frozen?_setCell]; exact g2⟩
      rw [World.cell?_setCell_other (h := by intro e; injection e with e1 _; exact hn e1)]
      exact g1
  · rw [World.size_setCell]
    rcases List.mem_cons.1 hp with rfl | hp
    · exact h.lt (b, xs) (.head _)
    · exact h.lt p (.tail _ hp)
  · rcases List.mem_cons.1 hp with rfl | hp
    · exact hge
    · exact h.ge p (.tail _ hp)
theorem Has.set2 {b : Nat} {u v : Value} (h : Has w0 ((b, [u, v]) :: bs) w) (x y : Value) : Has w0 ((b, [x, y]) :: bs) ((w.setCell ⟨b, 0, none⟩ x).setCell ⟨b, 1, none⟩ y) :=
  (h.set 0 (by simp) x).set 1 (by simp) y
theorem Has.set3 {b : Nat} {u v t : Value} (h : Has w0 ((b, [u, v, t]) :: bs) w) (x y z : Value) : Has w0 ((b, [x, y, z]) :: bs) (((w.setCell ⟨b, 0, none⟩ x).setCell ⟨b, 1, none⟩ y).setCell ⟨b, 2, none⟩ z) :=
  ((h.set 0 (by simp) x).set 1 (by simp) y).set 2 (by simp) z
theorem Has.call {k : FuncId} {args : Array Value} {E : Ending} {P : Program} (h : Has w0 bs w) (hc : Calls P k args w fun e w' => e = E ∧ Below w.heap.size w w') : Calls P k args w fun e w' => e = E ∧ Has w0 bs w' :=
  hc.mono fun _ _ ⟨he, hb⟩ => ⟨he, h.later hb⟩
/-- One point. -/
theorem Has.pt {A : Nat} {a b : Value} (h : Has w0 ((A, [a, b]) :: bs) w) : w.cell? ⟨A, 0, none⟩ = some a ∧ w.cell? ⟨A, 1, none⟩ = some b := ⟨h.fact (.head _) (i := 0) rfl, h.fact (.head _) (i := 1) rfl⟩
theorem Has.ptf {A : Nat} {a b : Value} (h : Has w0 ((A, [a, b]) :: bs) w) : w.frozen? ⟨A, 0, none⟩ = false ∧ w.frozen? ⟨A, 1, none⟩ = false := ⟨h.free (.head _) (i := 0) rfl, h.free (.head _) (i := 1) rfl⟩
/-- Two points. -/
theorem Has.two {A B : Nat} {a b c d : Value} (h : Has w0 ((A, [a, b]) :: (B, [c, d]) :: bs) w) :
    (w.cell? ⟨A, 0, none⟩ = some a ∧ w.cell? ⟨A, 1, none⟩ = some b ∧ w.cell? ⟨B, 0, none⟩ = some c ∧ w.cell? ⟨B, 1, none⟩ = some d) ∧ Has w0 ((A, [a, b]) :: (B, [c, d]) :: bs) w :=
  ⟨⟨h.pt.1, h.pt.2, h.tail.pt.1, h.tail.pt.2⟩, h⟩
/-- A block of the call's own, and two points. -/
theorem Has.fst {A B C : Nat} {xs : List Value} {a b c d : Value} (h : Has w0 ((C, xs) :: (A, [a, b]) :: (B, [c, d]) :: bs) w) :
    (w.cell? ⟨A, 0, none⟩ = some a ∧ w.cell? ⟨A, 1, none⟩ = some b ∧ w.cell? ⟨B, 0, none⟩ = some c ∧ w.cell? ⟨B, 1, none⟩ = some d) ∧ Has w0 ((C, xs) :: (A, [a, b]) :: (B, [c, d]) :: bs) w :=
  ⟨h.tail.two.1, h⟩
/-- Three points. -/
theorem Has.three {A B C : Nat} {a b c d e f : Value} (h : Has w0 ((A, [a, b]) :: (B, [c, d]) :: (C, [e, f]) :: bs) w) :
    (w.cell? ⟨A, 0, none⟩ = some a ∧ w.cell? ⟨A, 1, none⟩ = some b ∧ w.cell? ⟨B, 0, none⟩ = some c ∧ w.cell? ⟨B, 1, none⟩ = some d ∧ w.cell? ⟨C, 0, none⟩ = some e ∧ w.cell? ⟨C, 1, none⟩ = some f) ∧ Has w0 ((A, [a, b]) :: (B, [c, d]) :: (C, [e, f]) :: bs) w :=
  ⟨⟨h.pt.1, h.pt.2, h.tail.pt.1, h.tail.pt.2, h.tail.tail.pt.1, h.tail.tail.pt.2⟩, h⟩
/-- Four points. -/
theorem Has.four {A B C D : Nat} {a b c d e f g k : Value} (h : Has w0 ((A, [a, b]) :: (B, [c, d]) :: (C, [e, f]) :: (D, [g, k]) :: bs) w) :
    (w.cell? ⟨A, 0, none⟩ = some a ∧ w.cell? ⟨A, 1, none⟩ = some b ∧ w.cell? ⟨B, 0, none⟩ = some c ∧ w.cell? ⟨B, 1, none⟩ = some d ∧ w.cell? ⟨C, 0, none⟩ = some e ∧ w.cell? ⟨C, 1, none⟩ = some f ∧ w.cell? ⟨D, 0, none⟩ = some g ∧ w.cell? ⟨D, 1, none⟩ = some k) ∧ Has w0 ((A, [a, b]) :: (B, [c, d]) :: (C, [e, f]) :: (D, [g, k]) :: bs) w :=
  ⟨⟨h.pt.1, h.pt.2, h.tail.pt.1, h.tail.pt.2, h.tail.tail.pt.1, h.tail.tail.pt.2, h.tail.tail.tail.pt.1, h.tail.tail.tail.pt.2⟩, h⟩
/-- Blocks, from where they are boxed: two, three, four. -/
theorem has1 (xs : List Value) (T : TypeId) : Has w [(w.heap.size, xs)] (w.alloc (.cells xs.toArray T)) := (Has.nil (Below.refl _ w)).push xs T
theorem has2 (xs ys : List Value) (T U : TypeId) : Has w [(w.heap.size, xs), (w.heap.size + 1, ys)] ((w.alloc (.cells xs.toArray T)).alloc (.cells ys.toArray U)) := by
  have h := (has1 (w := w) xs T).push ys U
  rw [size_alloc] at h
  exact h.swap
theorem has3 (xs ys zs : List Value) (T U V : TypeId) : Has w [(w.heap.size, xs), (w.heap.size + 1, ys), (w.heap.size + 2, zs)] (((w.alloc (.cells xs.toArray T)).alloc (.cells ys.toArray U)).alloc (.cells zs.toArray V)) := by
  have h := (has2 (w := w) xs ys T U).push zs V
  rw [size_alloc, size_alloc] at h
  exact h.perm ((List.Perm.swap _ _ _).trans (.cons _ (.swap _ _ _)))
theorem has4 (xs ys zs us : List Value) (T U V X : TypeId) : Has w [(w.heap.size, xs), (w.heap.size + 1, ys), (w.heap.size + 2, zs), (w.heap.size + 3, us)] ((((w.alloc (.cells xs.toArray T)).alloc (.cells ys.toArray U)).alloc (.cells zs.toArray V)).alloc (.cells us.toArray X)) := by
  have h := (has3 (w := w) xs ys zs T U V).push us X
  rw [size_alloc, size_alloc, size_alloc] at h
  exact h.perm ((List.Perm.swap _ _ _).trans (.cons _ ((List.Perm.swap _ _ _).trans (.cons _ (.swap _ _ _)))))
end

/-- Points in the order of their X, then of their Y. -/
def lexlt (a b c d : Int) : Bool := decide (a < c ∨ a = c ∧ b < d)
theorem lexlt_iff {a b c d : Int} : lexlt a b c d = true ↔ (a < c ∨ a = c ∧ b < d) := by unfold lexlt; simp
theorem lexlt_no {a b c d : Int} : lexlt a b c d = false ↔ ¬ (a < c ∨ a = c ∧ b < d) := by unfold lexlt; simp
def lexmin (a b c d : Int) : Int × Int := if lexlt a b c d then (a, b) else (c, d)
def lexmax (a b c d : Int) : Int × Int := if lexlt a b c d then (c, d) else (a, b)

set_option maxHeartbeats 400000 in
theorem earlier_any (a b c d : Int) (w : World) :
    Calls Try.prog 90 #[.agg #[.int .i64 a, .int .i64 b], .agg #[.int .i64 c, .int .i64 d]] w fun e w' => e = .returned (.agg #[.int .i64 (lexmin a b c d).1, .int .i64 (lexmin a b c d).2]) ∧ Below w.heap.size w w' := by
  rcases Int.lt_trichotomy a c with h | h | h
  · rw [show lexmin a b c d = (a, b) by unfold lexmin; rw [if_pos (lexlt_iff.2 (Or.inl h))]]
    go_enter Try.func90, Try.ntmps90
    go_wp2
    go_returns
    exact ⟨rfl, by go_grown⟩
  · subst h
    by_cases k : b < d
    · rw [show lexmin a b a d = (a, b) by unfold lexmin; rw [if_pos (lexlt_iff.2 (Or.inr ⟨rfl, k⟩))]]
      go_enter Try.func90, Try.ntmps90
      go_wp2
      go_returns
      exact ⟨rfl, by go_grown⟩
    · rw [show lexmin a b a d = (a, d) by unfold lexmin; rw [if_neg (by rw [lexlt_iff]; omega)]]
      go_enter Try.func90, Try.ntmps90
      go_wp2
      go_returns
      exact ⟨rfl, by go_grown⟩
  · rw [show lexmin a b c d = (c, d) by unfold lexmin; rw [if_neg (by rw [lexlt_iff]; omega)]]
    have h1 : (a == c) = false := by rw [beq_eq_false_iff_ne]; omega
    go_enter Try.func90, Try.ntmps90
    go_wp2
    go_returns
    exact ⟨rfl, by go_grown⟩

theorem earlier_is (a b c d p q : Int) (h : lexmin a b c d = (p, q)) (w : World) :
    Calls Try.prog 90 #[.agg #[.int .i64 a, .int .i64 b], .agg #[.int .i64 c, .int .i64 d]] w fun e w' => e = .returned (.agg #[.int .i64 p, .int .i64 q]) ∧ Below w.heap.size w w' := by
  have := earlier_any a b c d w
  rw [h] at this
  exact this

set_option maxHeartbeats 400000 in
theorem less_any (a b c d : Int) (w : World) :
    Calls Try.prog 86 #[.agg #[.int .i64 a, .int .i64 b], .agg #[.int .i64 c, .int .i64 d]] w fun e w' => e = .returned (.bool (lexlt a b c d)) ∧ Below w.heap.size w w' := by
  rcases Int.lt_trichotomy a c with h | h | h
  · rw [lexlt_iff.2 (Or.inl h)]
    go_enter Try.func86, Try.ntmps86
    go_wp2
    go_ret
    exact ⟨rfl, by go_grown⟩
  · subst h
    by_cases k : b < d
    · rw [lexlt_iff.2 (Or.inr ⟨rfl, k⟩)]
      go_enter Try.func86, Try.ntmps86
      go_wp2
      go_ret
      exact ⟨rfl, by go_grown⟩
    · rw [lexlt_no.2 (by omega)]
      go_enter Try.func86, Try.ntmps86
      go_wp2
      go_ret
      exact ⟨rfl, by go_grown⟩
  · rw [lexlt_no.2 (by omega)]
    have h1 : (a == c) = false := by rw [beq_eq_false_iff_ne]; omega
    have h2 : decide (a < c) = false := by simp; omega
    go_enter Try.func86, Try.ntmps86
    go_wp2
    go_ret
    exact ⟨rfl, by go_grown⟩

theorem less_is (a b c d : Int) (r : Bool) (h : lexlt a b c d = r) (w : World) :
    Calls Try.prog 86 #[.agg #[.int .i64 a, .int .i64 b], .agg #[.int .i64 c, .int .i64 d]] w fun e w' => e = .returned (.bool r) ∧ Below w.heap.size w w' := h ▸ less_any a b c d w

/-- What the smaller of two points is, and the greater. -/
theorem lex_lt {a b c d : Int} (h : lexlt a b c d = true) : lexmin a b c d = (a, b) ∧ lexmax a b c d = (c, d) := by unfold lexmin lexmax; rw [if_pos h, if_pos h]; exact ⟨rfl, rfl⟩
theorem lex_ge {a b c d : Int} (h : lexlt a b c d = false) : lexmin a b c d = (c, d) ∧ lexmax a b c d = (a, b) := by unfold lexmin lexmax; rw [h]; exact ⟨rfl, rfl⟩

theorem lexmax_by {a b c d p q : Int} (h : lexmin a b c d = (p, q)) : (p = a → q = b → lexmax a b c d = (c, d)) ∧ (¬ p = a → lexmax a b c d = (a, b)) ∧ (¬ q = b → lexmax a b c d = (a, b)) := by
  unfold lexmin at h
  unfold lexmax
  cases hl : lexlt a b c d <;> rw [hl] at h <;> simp only [Bool.false_eq_true, if_false, if_true, Prod.mk.injEq] at h ⊢ <;> obtain ⟨rfl, rfl⟩ := h
  · refine ⟨fun e f => ⟨e.symm, f.symm⟩, fun _ => trivial, fun _ => trivial⟩
  · refine ⟨fun _ _ => trivial, fun e => absurd rfl e, fun e => absurd rfl e⟩

set_option maxHeartbeats 1000000 in
theorem later_any (a b c d : Int) (w : World) :
    Calls Try.prog 89 #[.agg #[.int .i64 a, .int .i64 b], .agg #[.int .i64 c, .int .i64 d]] w fun e w' => e = .returned (.agg #[.int .i64 (lexmax a b c d).1, .int .i64 (lexmax a b c d).2]) ∧ Below w.heap.size w w' := by
  obtain ⟨p, q, hpq⟩ : ∃ p q, lexmin a b c d = (p, q) := ⟨_, _, rfl⟩
  obtain ⟨g1, g2, g3⟩ := lexmax_by hpq
  have HP := Lib.hid hpq
  clear hpq
  by_cases k1 : p = a
  · by_cases k2 : q = b
    · rw [g1 k1 k2]
      have e1 : (p == a) = true := by rw [k1]; simp
      have e2 : (q == b) = true := by rw [k2]; simp
      clear g1 g2 g3 k1 k2
      have C0 := has2 (w := w) [.int .i64 a, .int .i64 b] [.int .i64 c, .int .i64 d] 24 24
      have C1 := C0.push [.int .i64 0, .int .i64 0] 24
      rw [size_alloc, size_alloc] at C1
      clear C0
      go_enter Try.func89, Try.ntmps89
      go_wp2_with fail
      change Has w _ (((w.alloc (.cells #[.int .i64 a, .int .i64 b] 24)).alloc (.cells #[.int .i64 c, .int .i64 d] 24)).alloc (.cells #[.int .i64 0, .int .i64 0] 24)) at C1
      generalize ((w.alloc (.cells #[.int .i64 a, .int .i64 b] 24)).alloc (.cells #[.int .i64 c, .int .i64 d] 24)).alloc (.cells #[.int .i64 0, .int .i64 0] 24) = w1 at *
      have c0 := C1.fact (.tail _ (.head _)) (i := 0) rfl
      have c1 := C1.fact (.tail _ (.head _)) (i := 1) rfl
      have c2 := C1.fact (.tail _ (.tail _ (.head _))) (i := 0) rfl
      have c3 := C1.fact (.tail _ (.tail _ (.head _))) (i := 1) rfl
      go_region_held3 (fun w' => (w'.cell? ⟨w.heap.size, 0, none⟩ = some (.int .i64 a) ∧ w'.cell? ⟨w.heap.size, 1, none⟩ = some (.int .i64 b) ∧ w'.cell? ⟨w.heap.size + 1, 0, none⟩ = some (.int .i64 c) ∧ w'.cell? ⟨w.heap.size + 1, 1, none⟩ = some (.int .i64 d)) ∧ Has w [(w.heap.size + 2, [.int .i64 0, .int .i64 0]), (w.heap.size, [.int .i64 a, .int .i64 b]), (w.heap.size + 1, [.int .i64 c, .int .i64 d])] w')
        (first | exact C1.drew.fst | exact Has.fst (by assumption))
        (first | (go_at_call 90; refine (Has.call (by first | assumption | exact And.right (by assumption)) (earlier_is _ _ _ _ _ _ HP.out _)).mono ?_; rintro e w' ⟨rfl, hC⟩))
      have C2 : Has w [(w.heap.size + 2, [.int .i64 0, .int .i64 0]), (w.heap.size, [.int .i64 a, .int .i64 b]), (w.heap.size + 1, [.int .i64 c, .int .i64 d])] _ := hC
      clear c0 c1 c2 c3 C1
      obtain ⟨⟨c0, c1, c2, c3⟩, -⟩ := C2.fst
      have c4 := C2.fact (.head _) (i := 0) rfl
      have c5 := C2.fact (.head _) (i := 1) rfl
      have f4 := C2.free (.head _) (i := 0) rfl
      have f5 := C2.free (.head _) (i := 1) rfl
      go_wp2_with fail
      have C3 := C2.set2 (.int .i64 c) (.int .i64 d)
      generalize (World.setCell _ ⟨w.heap.size + 2, 0, none⟩ (.int .i64 c)).setCell ⟨w.heap.size + 2, 1, none⟩ (.int .i64 d) = w3 at *
      have d0 := C3.fact (.head _) (i := 0) rfl
      have d1 := C3.fact (.head _) (i := 1) rfl
      exact bodyPost_ret (v := .agg #[.int .i64 c, .int .i64 d]) (by simp [results, Try.results89, go_sem, d0, d1]) rfl ⟨rfl, C3.low⟩
    · rw [g3 k2]
      have e1 : (p == a) = true := by rw [k1]; simp
      have e2 : (q == b) = false := by rw [beq_eq_false_iff_ne]; exact k2
      clear g1 g2 g3 k1 k2
      have C0 := has2 (w := w) [.int .i64 a, .int .i64 b] [.int .i64 c, .int .i64 d] 24 24
      have C1 := C0.push [.int .i64 0, .int .i64 0] 24
      rw [size_alloc, size_alloc] at C1
      clear C0
      go_enter Try.func89, Try.ntmps89
      go_wp2_with fail
      change Has w _ (((w.alloc (.cells #[.int .i64 a, .int .i64 b] 24)).alloc (.cells #[.int .i64 c, .int .i64 d] 24)).alloc (.cells #[.int .i64 0, .int .i64 0] 24)) at C1
      generalize ((w.alloc (.cells #[.int .i64 a, .int .i64 b] 24)).alloc (.cells #[.int .i64 c, .int .i64 d] 24)).alloc (.cells #[.int .i64 0, .int .i64 0] 24) = w1 at *
      have c0 := C1.fact (.tail _ (.head _)) (i := 0) rfl
      have c1 := C1.fact (.tail _ (.head _)) (i := 1) rfl
      have c2 := C1.fact (.tail _ (.tail _ (.head _))) (i := 0) rfl
      have c3 := C1.fact (.tail _ (.tail _ (.head _))) (i := 1) rfl
      go_region_held3 (fun w' => (w'.cell? ⟨w.heap.size, 0, none⟩ = some (.int .i64 a) ∧ w'.cell? ⟨w.heap.size, 1, none⟩ = some (.int .i64 b) ∧ w'.cell? ⟨w.heap.size + 1, 0, none⟩ = some (.int .i64 c) ∧ w'.cell? ⟨w.heap.size + 1, 1, none⟩ = some (.int .i64 d)) ∧ Has w [(w.heap.size + 2, [.int .i64 0, .int .i64 0]), (w.heap.size, [.int .i64 a, .int .i64 b]), (w.heap.size + 1, [.int .i64 c, .int .i64 d])] w')
        (first | exact C1.drew.fst | exact Has.fst (by assumption))
        (first | (go_at_call 90; refine (Has.call (by first | assumption | exact And.right (by assumption)) (earlier_is _ _ _ _ _ _ HP.out _)).mono ?_; rintro e w' ⟨rfl, hC⟩))
      have C2 : Has w [(w.heap.size + 2, [.int .i64 0, .int .i64 0]), (w.heap.size, [.int .i64 a, .int .i64 b]), (w.heap.size + 1, [.int .i64 c, .int .i64 d])] _ := hC
      clear c0 c1 c2 c3 C1
      obtain ⟨⟨c0, c1, c2, c3⟩, -⟩ := C2.fst
      have c4 := C2.fact (.head _) (i := 0) rfl
      have c5 := C2.fact (.head _) (i := 1) rfl
      have f4 := C2.free (.head _) (i := 0) rfl
      have f5 := C2.free (.head _) (i := 1) rfl
      go_wp2_with fail
      have C3 := C2.set2 (.int .i64 a) (.int .i64 b)
      generalize (World.setCell _ ⟨w.heap.size + 2, 0, none⟩ (.int .i64 a)).setCell ⟨w.heap.size + 2, 1, none⟩ (.int .i64 b) = w3 at *
      have d0 := C3.fact (.head _) (i := 0) rfl
      have d1 := C3.fact (.head _) (i := 1) rfl
      exact bodyPost_ret (v := .agg #[.int .i64 a, .int .i64 b]) (by simp [results, Try.results89, go_sem, d0, d1]) rfl ⟨rfl, C3.low⟩
  · rw [g2 k1]
    have e1 : (p == a) = false := by rw [beq_eq_false_iff_ne]; exact k1
    clear g1 g2 g3 k1
    have C0 := has2 (w := w) [.int .i64 a, .int .i64 b] [.int .i64 c, .int .i64 d] 24 24
    have C1 := C0.push [.int .i64 0, .int .i64 0] 24
    rw [size_alloc, size_alloc] at C1
    clear C0
    go_enter Try.func89, Try.ntmps89
    go_wp2_with fail
    change Has w _ (((w.alloc (.cells #[.int .i64 a, .int .i64 b] 24)).alloc (.cells #[.int .i64 c, .int .i64 d] 24)).alloc (.cells #[.int .i64 0, .int .i64 0] 24)) at C1
    generalize ((w.alloc (.cells #[.int .i64 a, .int .i64 b] 24)).alloc (.cells #[.int .i64 c, .int .i64 d] 24)).alloc (.cells #[.int .i64 0, .int .i64 0] 24) = w1 at *
    have c0 := C1.fact (.tail _ (.head _)) (i := 0) rfl
    have c1 := C1.fact (.tail _ (.head _)) (i := 1) rfl
    have c2 := C1.fact (.tail _ (.tail _ (.head _))) (i := 0) rfl
    have c3 := C1.fact (.tail _ (.tail _ (.head _))) (i := 1) rfl
    go_region_held3 (fun w' => (w'.cell? ⟨w.heap.size, 0, none⟩ = some (.int .i64 a) ∧ w'.cell? ⟨w.heap.size, 1, none⟩ = some (.int .i64 b) ∧ w'.cell? ⟨w.heap.size + 1, 0, none⟩ = some (.int .i64 c) ∧ w'.cell? ⟨w.heap.size + 1, 1, none⟩ = some (.int .i64 d)) ∧ Has w [(w.heap.size + 2, [.int .i64 0, .int .i64 0]), (w.heap.size, [.int .i64 a, .int .i64 b]), (w.heap.size + 1, [.int .i64 c, .int .i64 d])] w')
      (first | exact C1.drew.fst | exact Has.fst (by assumption))
      (first | (go_at_call 90; refine (Has.call (by first | assumption | exact And.right (by assumption)) (earlier_is _ _ _ _ _ _ HP.out _)).mono ?_; rintro e w' ⟨rfl, hC⟩))
    have C2 : Has w [(w.heap.size + 2, [.int .i64 0, .int .i64 0]), (w.heap.size, [.int .i64 a, .int .i64 b]), (w.heap.size + 1, [.int .i64 c, .int .i64 d])] _ := hC
    clear c0 c1 c2 c3 C1
    obtain ⟨⟨c0, c1, c2, c3⟩, -⟩ := C2.fst
    have c4 := C2.fact (.head _) (i := 0) rfl
    have c5 := C2.fact (.head _) (i := 1) rfl
    have f4 := C2.free (.head _) (i := 0) rfl
    have f5 := C2.free (.head _) (i := 1) rfl
    go_wp2_with fail
    have C3 := C2.set2 (.int .i64 a) (.int .i64 b)
    generalize (World.setCell _ ⟨w.heap.size + 2, 0, none⟩ (.int .i64 a)).setCell ⟨w.heap.size + 2, 1, none⟩ (.int .i64 b) = w3 at *
    have d0 := C3.fact (.head _) (i := 0) rfl
    have d1 := C3.fact (.head _) (i := 1) rfl
    exact bodyPost_ret (v := .agg #[.int .i64 a, .int .i64 b]) (by simp [results, Try.results89, go_sem, d0, d1]) rfl ⟨rfl, C3.low⟩

theorem later_is (a b c d p q : Int) (h : lexmax a b c d = (p, q)) (w : World) :
    Calls Try.prog 89 #[.agg #[.int .i64 a, .int .i64 b], .agg #[.int .i64 c, .int .i64 d]] w fun e w' => e = .returned (.agg #[.int .i64 p, .int .i64 q]) ∧ Below w.heap.size w w' := by
  have := later_any a b c d w
  rw [h] at this
  exact this

end Go.Proofs.Ytmldgjhecoeldaa
