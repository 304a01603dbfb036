/- Meet of the reference. -/
import Derived.Test.YtmldgjhecoeldaaRMeetN
import Derived.Test.YtmldgjhecoeldaaRMeetF
import Derived.Test.YtmldgjhecoeldaaRMeetS
namespace Go.Proofs.Ytmldgjhecoeldaa
open Go.RowKit Go.Lib

theorem rmeet_any (a0 a1 b0 b1 c0 c1 d0 d1 : Int) (w : World) :
    Calls Try.prog 57 #[.agg #[.int .i64 a0, .int .i64 a1], .agg #[.int .i64 b0, .int .i64 b1], .agg #[.int .i64 c0, .int .i64 c1], .agg #[.int .i64 d0, .int .i64 d1]] w fun e w' => e = .returned (.int .i64 (meetOf a0 a1 b0 b1 c0 c1 d0 d1)) ∧ Below w.heap.size w w' := by
  by_cases h : inl 1152921504606846976 a0 a1 = true ∧ inl 1152921504606846976 b0 b1 = true ∧ inl 1152921504606846976 c0 c1 = true ∧ inl 1152921504606846976 d0 d1 = true
  · obtain ⟨h0, h1, h2, h3⟩ := h
    rw [meet_yes h0 h1 h2 h3 rfl rfl rfl rfl rfl]
    by_cases hs : sideOf c0 c1 d0 d1 a0 a1 = 0 ∧ sideOf c0 c1 d0 d1 b0 b1 = 0 ∧ sideOf a0 a1 b0 b1 c0 c1 = 0 ∧ sideOf a0 a1 b0 b1 d0 d1 = 0
    · unfold meetS
      rw [if_pos hs]
      exact rmeet_flat a0 a1 b0 b1 c0 c1 d0 d1 w h0 h1 h2 h3 hs.1 hs.2.1 hs.2.2.1 hs.2.2.2
    · unfold meetS
      rw [if_neg hs]
      exact rmeet_skew a0 a1 b0 b1 c0 c1 d0 d1 _ _ _ _ w h0 h1 h2 h3 rfl rfl rfl rfl hs
  · exact rmeet_no a0 a1 b0 b1 c0 c1 d0 d1 w h
theorem rmeet_is (a0 a1 b0 b1 c0 c1 d0 d1 s : Int) (h : meetOf a0 a1 b0 b1 c0 c1 d0 d1 = s) (w : World) :
    Calls Try.prog 57 #[.agg #[.int .i64 a0, .int .i64 a1], .agg #[.int .i64 b0, .int .i64 b1], .agg #[.int .i64 c0, .int .i64 c1], .agg #[.int .i64 d0, .int .i64 d1]] w fun e w' => e = .returned (.int .i64 s) ∧ Below w.heap.size w w' := h ▸ rmeet_any a0 a1 b0 b1 c0 c1 d0 d1 w

end Go.Proofs.Ytmldgjhecoeldaa
