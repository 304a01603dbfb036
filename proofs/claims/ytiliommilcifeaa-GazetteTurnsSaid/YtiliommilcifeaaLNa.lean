/- The walk of GazetteNames. -/
import Derived.Test.YtiliommilcifeaaA12
import Derived.Test.YtiliommilcifeaaA5
namespace Go.Proofs.Ytiliommilcifeaa
open Go.RowKit Go.Lib Go.Sort

theorem fits_cut (s : List UInt8) : Fits (s.take 40) := by unfold Fits; rw [List.length_take]; omega
theorem fits_fold {s : List UInt8} (h : Fits s) : Fits (fold s) := by unfold Fits at *; rw [fold_length]; exact h
set_option maxRecDepth 100000 in
set_option maxHeartbeats 8000000 in
theorem names_any (s t : List UInt8) (w : World) (hs : (s.length : Int) ≤ 9223372036854775807) (ht : (t.length : Int) ≤ 9223372036854775807) :
    Calls Try.prog 3 #[str s, str t] w fun e w' => e = .returned (.bool true) ∧ Grows w w' := by
  have HA := Lib.hid (fun w => cut_any s hs w)
  have HB := Lib.hid (fun w => cut_any t ht w)
  have fa := fits_cut s
  have fb := fits_cut t
  generalize s.take 40 = a at *
  generalize t.take 40 = b at *
  have H11 := Lib.hid (fun w => right_any a fa w)
  have H12 := Lib.hid (fun w => rright_any a fa w)
  have H13 := Lib.hid (fun w => class_any a fa w)
  have H14 := Lib.hid (fun w => rclass_any a fa w)
  have H15 := Lib.hid (fun w => fold_any a fa w)
  have H16 := Lib.hid (fun w => rfold_any a fa w)
  have H17 := Lib.hid (fun w => less_any a b fa w)
  have H18 := Lib.hid (fun w => rlessb_any a b fa fb w)
  have H19 := Lib.hid (fun w => less_any (fold a) a (fits_fold fa) w)
  have H20 := Lib.hid (fun w => rlessb_any (fold a) a (fits_fold fa) fa w)
  clear fa fb hs ht
  generalize rightN a = r1 at *
  generalize classN a = r2 at *
  generalize lessN a b = r3 at *
  generalize lessN (fold a) a = r4 at *
  generalize fold a = f at *
  unfold str at *
  go_enter Try.func3, Try.ntmps3
  go_wp2_with fail
  refine (sane_any w).mono ?_
  rintro e w1 ⟨rfl, g1⟩
  go_wp2_with fail
  refine (HA.out _).mono ?_
  rintro e w2 ⟨rfl, rfl⟩
  go_wp2_with fail
  refine (HB.out _).mono ?_
  rintro e w2 ⟨rfl, rfl⟩
  go_wp2_with fail
  refine (H11.out _).mono ?_
  rintro e w2 ⟨rfl, rfl⟩
  go_wp2_with fail
  refine (H12.out _).mono ?_
  rintro e w2 ⟨rfl, rfl⟩
  go_wp2_with fail
  refine (H13.out _).mono ?_
  rintro e w2 ⟨rfl, rfl⟩
  go_wp2_with fail
  refine (H14.out _).mono ?_
  rintro e w2 ⟨rfl, rfl⟩
  go_wp2_with fail
  refine (H15.out _).mono ?_
  rintro e w2 ⟨rfl, g2⟩
  go_wp2_with fail
  refine (H16.out _).mono ?_
  rintro e w3 ⟨rfl, g3⟩
  go_wp2_with fail
  refine (H17.out _).mono ?_
  rintro e w4 ⟨rfl, g4⟩
  go_wp2_with fail
  refine (H18.out _).mono ?_
  rintro e w5 ⟨rfl, g5⟩
  go_wp2_with fail
  refine (H15.out _).mono ?_
  rintro e w6 ⟨rfl, g6⟩
  go_wp2_with fail
  refine (H19.out _).mono ?_
  rintro e w7 ⟨rfl, g7⟩
  go_wp2_with fail
  refine (H16.out _).mono ?_
  rintro e w8 ⟨rfl, g8⟩
  go_wp2_with fail
  refine (H20.out _).mono ?_
  rintro e w9 ⟨rfl, g9⟩
  go_wp2_with fail
  go_ret
  exact ⟨rfl, (((((((g1.then g2).then g3).then g4).then g5).then g6).then g7).then g8).then g9⟩
end Go.Proofs.Ytiliommilcifeaa
