/- How many digests the lowest level has. -/
import Derived.Test.YtmgkbkpfhpkbcaaRProve
namespace Go.Proofs.Ytmgkbkpfhpkbcaa
open Go.RowKit Go.Lib

theorem tab_at {n : Nat} (a : Array UInt8) (x : Nat) (hx : x < ByteArray.size ⟨a⟩) (h : a.toList[x]?.map (fun c => wrap64 (wrap64 (c.toNat : Int))) = some (n : Int)) : wrap64 (wrap64 (((⟨a⟩ : ByteArray)[x]'hx).toNat : Int)) = (n : Int) := by
  have e : a.toList[x]? = some ((⟨a⟩ : ByteArray)[x]'hx) := List.getElem?_eq_getElem (show x < a.toList.length from hx)
  rw [e] at h
  exact Option.some.inj h

set_option maxRecDepth 100000 in
theorem len64_any (x : Nat) (w : World) (h : x < 32) : Calls Try.prog 49 #[.int .u64 (x : Int)] w fun e w' => e = .returned (.int .i64 (lg (x + 1) : Nat)) ∧ w = w' := by
  have h1 : ¬ (4294967296 : Int) ≤ (x : Int) := by omega
  have h2 : ¬ (65536 : Int) ≤ (x : Int) := by omega
  have h3 : ¬ (256 : Int) ≤ (x : Int) := by omega
  go_enter Try.func49, Try.ntmps49
  go_wp2
  go_ret
  refine ⟨ret_v (i64v (tab_at _ x _ ?_)), rfl⟩
  revert x
  decide +kernel

theorem len_any (x : Nat) (w : World) (h : x < 32) : Calls Try.prog 47 #[.int .u64 (x : Int)] w fun e w' => e = .returned (.int .i64 (lg (x + 1) : Nat)) ∧ w = w' := by
  go_enter Try.func47, Try.ntmps47
  go_wp2_with fail
  refine (len64_any x _ h).mono ?_
  rintro e w' ⟨rfl, rfl⟩
  go_wp2_with fail
  go_ret
  exact ⟨rfl, rfl⟩

theorem shl_lg (k : Nat) (h : k ≤ 5) : wrap64 ((2 : Int) ^ k) = ((2 ^ k : Nat) : Int) := by
  have : k = 0 ∨ k = 1 ∨ k = 2 ∨ k = 3 ∨ k = 4 ∨ k = 5 := by omega
  rcases this with rfl | rfl | rfl | rfl | rfl | rfl <;> decide +kernel

set_option maxHeartbeats 400000 in
theorem width_any (n : Nat) (w : World) (h : n ≤ 32) : Calls Try.prog 46 #[.int .i64 (n : Int)] w fun e w' => e = .returned (.int .i64 (wd n : Nat)) ∧ w = w' := by
  have HW := Lib.hid (show wrap64 ((2 : Int) ^ lg n) = ((wd n : Nat) : Int) by rw [shl_lg (lg n) (lg_le n), wd_lg])
  have hk := lg_le n
  by_cases h0 : n = 0
  · subst h0
    have HL := Lib.hid (show lg (0 + 1) = lg 0 from rfl)
    go_enter Try.func46, Try.ntmps46
    go_wp2_with fail
    refine (len_any 0 _ (by decide)).mono ?_
    rintro e w' ⟨rfl, rfl⟩
    rw [HL.out]
    generalize lg 0 = k at *
    go_wp2_with fail
    go_ret
    exact ⟨ret_v (i64v HW.out), rfl⟩
  · have h1 : ¬ (n : Int) < 1 := by omega
    have e : (n : Int) - 1 = ((n - 1 : Nat) : Int) := by omega
    have E := Lib.hid e
    clear e
    have HL := Lib.hid (show lg (n - 1 + 1) = lg n by rw [show n - 1 + 1 = n by omega])
    go_enter Try.func46, Try.ntmps46
    go_wp2_with fail
    all_goals (rw [E.out])
    all_goals (refine (len_any (n - 1) _ (by omega)).mono ?_)
    all_goals (rintro e w' ⟨rfl, rfl⟩)
    all_goals (rw [HL.out])
    all_goals (generalize lg n = k at *)
    all_goals go_wp2_with fail
    all_goals go_ret
    all_goals exact ⟨ret_v (i64v HW.out), rfl⟩

end Go.Proofs.Ytmgkbkpfhpkbcaa
