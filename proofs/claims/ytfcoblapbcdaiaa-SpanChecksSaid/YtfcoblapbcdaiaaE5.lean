/- The small functions: bands, squares, scales, and those of the reference. -/
import Derived.Test.YtfcoblapbcdaiaaE4
import Derived.Test.YtfcoblapbcdaiaaA3
namespace Go.Proofs.Ytfcoblapbcdaiaa
open Go.RowKit Go.Lib
attribute [local go_sem] Oper.semAt_some
def bandV (s : Int) : Int := if s ≤ 1024 then 0 else if s ≤ 16384 then 1 else if s ≤ 262144 then 2 else 3
def sqV (x y : Int) : Int := wrap64 (wrap64 (x * x) + wrap64 (y * y))
set_option maxHeartbeats 400000 in
theorem band_any (s : Int) (w : World) : Calls Try.prog 19 #[.int .i64 s] w fun e w' => e = .returned (.int .i64 (bandV s)) ∧ w = w' := by
  unfold bandV
  by_cases h0 : s ≤ 1024
  · rw [if_pos h0]
    go_enter Try.func19, Try.ntmps19
    go_wp2_with fail
    go_ret
    exact ⟨rfl, rfl⟩
  · rw [if_neg h0]
    by_cases h1 : s ≤ 16384
    · rw [if_pos h1]
      go_enter Try.func19, Try.ntmps19
      go_wp2_with fail
      go_ret
      exact ⟨rfl, rfl⟩
    · rw [if_neg h1]
      by_cases h2 : s ≤ 262144
      · rw [if_pos h2]
        go_enter Try.func19, Try.ntmps19
        go_wp2_with fail
        go_ret
        exact ⟨rfl, rfl⟩
      · rw [if_neg h2]
        go_enter Try.func19, Try.ntmps19
        go_wp2_with fail
        go_ret
        exact ⟨rfl, rfl⟩

set_option maxHeartbeats 400000 in
theorem rband_any (s : Int) (w : World) : Calls Try.prog 20 #[.int .i64 s] w fun e w' => e = .returned (.int .i64 (bandV s)) ∧ w = w' := by
  unfold bandV
  by_cases h0 : s ≤ 1024
  · rw [if_pos h0]
    go_enter Try.func20, Try.ntmps20
    go_wp2_with fail
    go_ret
    exact ⟨rfl, rfl⟩
  · rw [if_neg h0]
    by_cases h1 : s ≤ 16384
    · rw [if_pos h1]
      go_enter Try.func20, Try.ntmps20
      go_wp2_with fail
      go_ret
      exact ⟨rfl, rfl⟩
    · rw [if_neg h1]
      by_cases h2 : s ≤ 262144
      · rw [if_pos h2]
        go_enter Try.func20, Try.ntmps20
        go_wp2_with fail
        go_ret
        exact ⟨rfl, rfl⟩
      · rw [if_neg h2]
        go_enter Try.func20, Try.ntmps20
        go_wp2_with fail
        go_ret
        exact ⟨rfl, rfl⟩

set_option maxHeartbeats 400000 in
theorem square_any (x y : Int) (w : World) : Calls Try.prog 21 #[.agg #[.int .i64 x, .int .i64 y]] w fun e w' => e = .returned (.int .i64 (sqV x y)) ∧ Below w.heap.size w w' := by
  have C := has1 (w := w) [.int .i64 x, .int .i64 y] 42
  change Has w _ (w.alloc (.cells #[.int .i64 x, .int .i64 y] 42)) at C
  go_enter Try.func21, Try.ntmps21
  go_wp2_with fail
  generalize w.alloc (.cells #[.int .i64 x, .int .i64 y] 42) = w1 at *
  obtain ⟨k0, k1⟩ := C.pt
  go_wp2_with fail
  go_ret
  refine ⟨ret_i ?_, C.low⟩
  simp only [sqV, wrap64]

set_option maxHeartbeats 400000 in
theorem rsquare_any (x y : Int) (w : World) : Calls Try.prog 22 #[.agg #[.int .i64 x, .int .i64 y]] w fun e w' => e = .returned (.int .i64 (sqV x y)) ∧ Below w.heap.size w w' := by
  have C := has1 (w := w) [.int .i64 x, .int .i64 y] 42
  change Has w _ (w.alloc (.cells #[.int .i64 x, .int .i64 y] 42)) at C
  go_enter Try.func22, Try.ntmps22
  go_wp2_with fail
  generalize w.alloc (.cells #[.int .i64 x, .int .i64 y] 42) = w1 at *
  obtain ⟨k0, k1⟩ := C.pt
  go_wp2_with fail
  go_ret
  refine ⟨ret_i ?_, C.low⟩
  simp only [sqV, wrap64]

set_option maxHeartbeats 400000 in
theorem in_any (a : Int) (w : World) : Calls Try.prog 30 #[.int .i64 a] w fun e w' => e = .returned (.bool (okA a)) ∧ w = w' := by
  by_cases h1 : 0 ≤ a
  · by_cases h2 : a ≤ 1024
    · rw [(okA_iff a).2 ⟨h1, h2⟩]
      go_enter Try.func30, Try.ntmps30
      go_wp2_with fail
      go_ret
      exact ⟨rfl, rfl⟩
    · rw [(okA_no a).2 (.inr (by omega))]
      go_enter Try.func30, Try.ntmps30
      go_wp2_with fail
      go_ret
      exact ⟨rfl, rfl⟩
  · rw [(okA_no a).2 (.inl (by omega))]
    go_enter Try.func30, Try.ntmps30
    go_wp2_with fail
    go_ret
    exact ⟨rfl, rfl⟩

/-- The scale of a square. -/
def scV (s : Int) : Int := min (rootOf s) 1024
theorem nat_sq_mono {a b : Nat} (h : a ≤ b) : a * a ≤ b * b := Nat.mul_le_mul h h
theorem sc_is {s : Int} {k : Nat} (hk : k ≤ 1024) (h1 : k = 0 ∨ (k : Int) * k ≤ s) (h2 : k = 1024 ∨ s < ((k : Int) + 1) * ((k : Int) + 1)) : scV s = k := by
  unfold scV rootOf
  by_cases hs : s < 0
  · rw [if_pos hs]
    have hz : k = 0 := by
      rcases h1 with h1 | h1
      · exact h1
      · have := Int.mul_nonneg (show 0 ≤ (k : Int) by omega) (show 0 ≤ (k : Int) by omega); omega
    subst hz; rfl
  · rw [if_neg hs]
    obtain ⟨n, rfl⟩ : ∃ n : Nat, s = n := ⟨s.toNat, by omega⟩
    rw [show ((n : Int)).toNat = n from rfl]
    obtain ⟨i1, i2⟩ := isq_spec n
    generalize isq n = r at *
    have h1' : k * k ≤ n := by
      rcases h1 with h1 | h1
      · subst h1; omega
      · exact_mod_cast h1
    have hkr : k ≤ r := by
      rcases Nat.lt_or_ge r k with g | g
      · have := nat_sq_mono (show r + 1 ≤ k by omega); omega
      · exact g
    rcases h2 with h2 | h2
    · subst h2; omega
    · have h2' : n < (k + 1) * (k + 1) := by exact_mod_cast h2
      have hrk : r ≤ k := by
        rcases Nat.lt_or_ge k r with g | g
        · have := nat_sq_mono (show k + 1 ≤ r by omega); omega
        · exact g
      omega
theorem sc_bd (s : Int) : 0 ≤ scV s ∧ scV s ≤ 1024 := by
  unfold scV rootOf; split <;> omega
theorem sc_neg {s : Int} (h : s < 0) : scV s = 0 := by unfold scV; rw [← rootOf_neg h]; rfl
theorem sc_sq {s : Int} (h : 0 ≤ s) : scV s * scV s ≤ s ∧ (scV s = 1024 ∨ s < (scV s + 1) * (scV s + 1)) := by
  obtain ⟨n, rfl⟩ : ∃ n : Nat, s = n := ⟨s.toNat, by omega⟩
  unfold scV rootOf
  rw [if_neg (by omega), show ((n : Int)).toNat = n from rfl]
  obtain ⟨i1, i2⟩ := isq_spec n
  generalize isq n = r at *
  rcases Nat.lt_or_ge 1024 r with g | g
  · rw [show min ((r : Nat) : Int) 1024 = 1024 by omega]
    have := nat_sq_mono (show 1024 ≤ r by omega)
    exact ⟨by omega, .inl rfl⟩
  · rw [show min ((r : Nat) : Int) 1024 = r by omega]
    exact ⟨by exact_mod_cast i1, .inr (by exact_mod_cast i2)⟩
set_option maxHeartbeats 400000 in
theorem scale_any (s : Int) (w : World) (hs : s ≤ 9223372036854775807) : Calls Try.prog 17 #[.int .i64 s] w fun e w' => e = .returned (.int .i64 (scV s)) ∧ w = w' := by
  go_enter Try.func17, Try.ntmps17
  go_wp2_with fail
  refine (sqrt_any s _ hs).mono ?_
  rintro e w' ⟨rfl, rfl⟩
  obtain ⟨r, hr⟩ : ∃ r, rootOf s = r := ⟨_, rfl⟩
  have h := Lib.hid (show scV s = min r 1024 by unfold scV; rw [hr])
  rw [hr]
  clear hr
  by_cases hl : r ≤ 1024
  · go_wp2_with fail
    go_ret
    exact ⟨ret_i (by rw [h.out]; omega), rfl⟩
  · go_wp2_with fail
    go_ret
    exact ⟨ret_i (by rw [h.out]; omega), rfl⟩
set_option maxHeartbeats 1000000 in
theorem rscale_any (s : Int) (w : World) : Calls Try.prog 18 #[.int .i64 s] w fun e w' => e = .returned (.int .i64 (scV s)) ∧ Below w.heap.size w w' := by
  go_enter Try.func18, Try.ntmps18
  go_wp2_with fail
  go_loopw [3] (fun i wr => ∃ k : Nat, k ≤ 1024 ∧ i = .int .i64 k ∧ Hid (k = 0 ∨ (k : Int) * k ≤ s) ∧ Below w.heap.size w wr) (fun i _ => 1024 - (RowKit.intOf i).toNat)
  case atStart => exact ⟨0, by omega, rfl, Lib.hid (.inl rfl), Below.refl _ _⟩
  case round =>
    obtain ⟨k, hk, rfl, h1, hB⟩ := hrel
    have ksum : IntKind.i64.wrap ((k : Int) + 1) = ((k + 1 : Nat) : Int) := by rw [IntWalk.i64_in _ (by omega)]; rfl
    obtain ⟨q, hq⟩ : ∃ q, ((k : Int) + 1) * ((k : Int) + 1) = q := ⟨_, rfl⟩
    have hqb : 0 ≤ q ∧ q ≤ 1050625 := by
      subst hq
      have := Int.mul_le_mul (show (k : Int) + 1 ≤ 1025 by omega) (show (k : Int) + 1 ≤ 1025 by omega) (by omega) (by omega)
      have := Int.mul_nonneg (show 0 ≤ (k : Int) + 1 by omega) (show 0 ≤ (k : Int) + 1 by omega)
      omega
    have q1 : wrap64 ((k : Int) + 1) = (k : Int) + 1 := IntWalk.wrap64_in _ ⟨by omega, by omega⟩
    have q2 : wrap64 q = q := IntWalk.wrap64_in _ ⟨by omega, by omega⟩
    by_cases hl : k = 1024
    · have hz := Lib.hid (sc_is (s := s) hk h1.out (.inl hl))
      have g1 : ¬ (k : Int) < 1024 := by omega
      clear hl hq
      go_wp2_with fail
      go_ret
      exact ⟨ret_i hz.out.symm, hB⟩
    · have g1 : (k : Int) < 1024 := by omega
      by_cases hle : q ≤ s
      · have hz := Lib.hid (show k + 1 = 0 ∨ ((k + 1 : Nat) : Int) * ((k + 1 : Nat) : Int) ≤ s from .inr (by rw [show ((k + 1 : Nat) : Int) = (k : Int) + 1 by omega, hq]; exact hle))
        clear h1
        go_wp2_with fail
        go_roundw
        case rel => exact ⟨k + 1, by omega, by go_num, hz, hB⟩
        case measure => simp [RowKit.intOf]; omega
      · have hz := Lib.hid (sc_is (s := s) hk h1.out (.inr (by rw [hq]; omega)))
        go_wp2_with fail
        go_ret
        exact ⟨ret_i hz.out.symm, hB⟩
end Go.Proofs.Ytfcoblapbcdaiaa
