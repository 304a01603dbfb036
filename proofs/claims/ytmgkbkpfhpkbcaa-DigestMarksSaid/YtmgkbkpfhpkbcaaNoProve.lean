/- Where there is no proof; and both together. -/
import Derived.Test.YtmgkbkpfhpkbcaaProve
namespace Go.Proofs.Ytmgkbkpfhpkbcaa
open Go.RowKit Go.Lib

attribute [local go_sem] str
set_option maxHeartbeats 400000 in
theorem prove_no (v : Value) (L : List (List UInt8)) (i : Int) (w : World) (hv : Row w v (strs L)) (hi : i < 0 ∨ (L.length : Int) ≤ i) :
    Calls Try.prog 23 #[v, .int .i64 i] w fun e w' => e = .returned (.tuple #[.slice none 0 0, .bool false]) ∧ Grows w w' := by
  have hform : ∃ a cap, v = .slice a L.length cap := by
    obtain ⟨a, cap, h, _⟩ := hv
    exact ⟨a, cap, by rw [h, strs_length]⟩
  obtain ⟨a, cap, rfl⟩ := hform
  clear hv
  by_cases h0 : i < 0
  · go_enter Try.func23, Try.ntmps23
    go_wp2_with fail
    go_ret2
    exact ⟨rfl, by go_grown⟩
  · have h1 : (L.length : Int) ≤ i := by omega
    have h2 : 0 ≤ i := by omega
    go_enter Try.func23, Try.ntmps23
    go_wp2_with fail
    go_ret2
    exact ⟨rfl, by go_grown⟩

set_option maxHeartbeats 400000 in
theorem rprove_no (v : Value) (L : List (List UInt8)) (i : Int) (w : World) (hv : Row w v (strs L)) (hi : i < 0 ∨ (L.length : Int) ≤ i) :
    Calls Try.prog 24 #[v, .int .i64 i] w fun e w' => e = .returned (.tuple #[.slice none 0 0, .bool false]) ∧ Grows w w' := by
  have hform : ∃ a cap, v = .slice a L.length cap := by
    obtain ⟨a, cap, h, _⟩ := hv
    exact ⟨a, cap, by rw [h, strs_length]⟩
  obtain ⟨a, cap, rfl⟩ := hform
  clear hv
  by_cases h0 : i < 0
  · go_enter Try.func24, Try.ntmps24
    go_wp2_with fail
    go_ret2
    exact ⟨rfl, by go_grown⟩
  · have h1 : (L.length : Int) ≤ i := by omega
    have h2 : 0 ≤ i := by omega
    go_enter Try.func24, Try.ntmps24
    go_wp2_with fail
    go_ret2
    exact ⟨rfl, by go_grown⟩

/-- What Prove returns, with a list of its own. -/
def isIx (L : List (List UInt8)) (i : Int) : Bool := decide (0 ≤ i ∧ i < (L.length : Int))
def prvI (L : List (List UInt8)) (i : Int) : List (List UInt8) := if isIx L i = true then prv L i.toNat else []

theorem prove_any (v : Value) (L : List (List UInt8)) (i : Int) (w : World) (hv : Row w v (strs L)) (hl : ∀ s ∈ L, s.length ≤ 1000) (h32 : L.length ≤ 32) :
    Calls Try.prog 23 #[v, .int .i64 i] w fun e w' => ∃ v', e = .returned (.tuple #[v', .bool (isIx L i)]) ∧ Row w' v' (strs (prvI L i)) ∧ Grows w w' := by
  by_cases h : 0 ≤ i ∧ i < (L.length : Int)
  · have e1 : isIx L i = true := decide_eq_true h
    have e2 : prvI L i = prv L i.toNat := if_pos e1
    obtain ⟨k, rfl⟩ := Int.eq_ofNat_of_zero_le h.1
    rw [e1, e2]
    exact prove_yes v L k w hv hl h32 (by omega)
  · have e1 : isIx L i = false := decide_eq_false h
    have e2 : prvI L i = [] := if_neg (by rw [e1]; decide)
    rw [e1, e2]
    refine (prove_no v L i w hv (by omega)).mono ?_
    rintro e w' ⟨rfl, g⟩
    exact ⟨_, rfl, Row.nil _, g⟩
theorem rprove_any (v : Value) (L : List (List UInt8)) (i : Int) (w : World) (hv : Row w v (strs L)) (hl : ∀ s ∈ L, s.length ≤ 1000) (h32 : L.length ≤ 32) :
    Calls Try.prog 24 #[v, .int .i64 i] w fun e w' => ∃ v', e = .returned (.tuple #[v', .bool (isIx L i)]) ∧ Row w' v' (strs (prvI L i)) ∧ Grows w w' := by
  by_cases h : 0 ≤ i ∧ i < (L.length : Int)
  · have e1 : isIx L i = true := decide_eq_true h
    have e2 : prvI L i = prv L i.toNat := if_pos e1
    obtain ⟨k, rfl⟩ := Int.eq_ofNat_of_zero_le h.1
    rw [e1, e2]
    exact rprove_yes v L k w hv hl h32 (by omega)
  · have e1 : isIx L i = false := decide_eq_false h
    have e2 : prvI L i = [] := if_neg (by rw [e1]; decide)
    rw [e1, e2]
    refine (rprove_no v L i w hv (by omega)).mono ?_
    rintro e w' ⟨rfl, g⟩
    exact ⟨_, rfl, Row.nil _, g⟩
end Go.Proofs.Ytmgkbkpfhpkbcaa
