/- Words for the walks of the laws. -/
import Derived.Test.YtmldgjhecoeldaaSane
import Derived.Test.YtmldgjhecoeldaaSmall
import Derived.Test.YtmldgjhecoeldaaPts
namespace Go.Proofs.Ytmldgjhecoeldaa
open Go.RowKit Go.Lib

theorem Has.eight {w0 w : World} {bs : List (Nat × List Value)} {A : Nat} {c0 c1 c2 c3 c4 c5 c6 c7 : Value} (h : Has w0 ((A, [c0, c1, c2, c3, c4, c5, c6, c7]) :: bs) w) :
    (w.cell? ⟨A, 0, none⟩ = some c0 ∧ w.cell? ⟨A, 1, none⟩ = some c1 ∧ w.cell? ⟨A, 2, none⟩ = some c2 ∧ w.cell? ⟨A, 3, none⟩ = some c3 ∧ w.cell? ⟨A, 4, none⟩ = some c4 ∧ w.cell? ⟨A, 5, none⟩ = some c5 ∧ w.cell? ⟨A, 6, none⟩ = some c6 ∧ w.cell? ⟨A, 7, none⟩ = some c7) ∧ Has w0 ((A, [c0, c1, c2, c3, c4, c5, c6, c7]) :: bs) w :=
  ⟨⟨h.fact (.head _) (i := 0) rfl, h.fact (.head _) (i := 1) rfl, h.fact (.head _) (i := 2) rfl, h.fact (.head _) (i := 3) rfl, h.fact (.head _) (i := 4) rfl, h.fact (.head _) (i := 5) rfl, h.fact (.head _) (i := 6) rfl, h.fact (.head _) (i := 7) rfl⟩, h⟩
theorem Has.sixteen {w0 w : World} {bs : List (Nat × List Value)} {A B : Nat} {c0 c1 c2 c3 c4 c5 c6 c7 d0 d1 d2 d3 d4 d5 d6 d7 : Value} (h : Has w0 ((A, [c0, c1, c2, c3, c4, c5, c6, c7]) :: (B, [d0, d1, d2, d3, d4, d5, d6, d7]) :: bs) w) :
    (w.cell? ⟨A, 0, none⟩ = some c0 ∧ w.cell? ⟨A, 1, none⟩ = some c1 ∧ w.cell? ⟨A, 2, none⟩ = some c2 ∧ w.cell? ⟨A, 3, none⟩ = some c3 ∧ w.cell? ⟨A, 4, none⟩ = some c4 ∧ w.cell? ⟨A, 5, none⟩ = some c5 ∧ w.cell? ⟨A, 6, none⟩ = some c6 ∧ w.cell? ⟨A, 7, none⟩ = some c7 ∧ w.cell? ⟨B, 0, none⟩ = some d0 ∧ w.cell? ⟨B, 1, none⟩ = some d1 ∧ w.cell? ⟨B, 2, none⟩ = some d2 ∧ w.cell? ⟨B, 3, none⟩ = some d3 ∧ w.cell? ⟨B, 4, none⟩ = some d4 ∧ w.cell? ⟨B, 5, none⟩ = some d5 ∧ w.cell? ⟨B, 6, none⟩ = some d6 ∧ w.cell? ⟨B, 7, none⟩ = some d7) ∧ Has w0 ((A, [c0, c1, c2, c3, c4, c5, c6, c7]) :: (B, [d0, d1, d2, d3, d4, d5, d6, d7]) :: bs) w :=
  ⟨⟨h.fact (.head _) (i := 0) rfl, h.fact (.head _) (i := 1) rfl, h.fact (.head _) (i := 2) rfl, h.fact (.head _) (i := 3) rfl, h.fact (.head _) (i := 4) rfl, h.fact (.head _) (i := 5) rfl, h.fact (.head _) (i := 6) rfl, h.fact (.head _) (i := 7) rfl, h.tail.fact (.head _) (i := 0) rfl, h.tail.fact (.head _) (i := 1) rfl, h.tail.fact (.head _) (i := 2) rfl, h.tail.fact (.head _) (i := 3) rfl, h.tail.fact (.head _) (i := 4) rfl, h.tail.fact (.head _) (i := 5) rfl, h.tail.fact (.head _) (i := 6) rfl, h.tail.fact (.head _) (i := 7) rfl⟩, h⟩

end Go.Proofs.Ytmldgjhecoeldaa
