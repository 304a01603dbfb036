/- digest.Verify, where it refuses at once; and for every input. -/
import Derived.Test.YtmgkbkpfhpkbcaaVfy
namespace Go.Proofs.Ytmgkbkpfhpkbcaa
open Go.RowKit Go.Lib

attribute [local go_sem] str arr8

theorem set_grows {w w1 : World} (g : Grows w w1) (cs : List Value) : Grows w ((w1.alloc zero8).setCells w1.heap.size 0 cs) := grows_set (g.alloc g.size _) g.size

set_option maxHeartbeats 1000000 in
theorem vfy_root (root lf : List UInt8) (i : Int) (v : Value) (n : Nat) (a : Option Addr) (cap : Nat) (hv : v = .slice a n cap) (w : World) (hr : root.length ≠ 8) :
    Calls Try.prog 27 #[str root, str lf, .int .i64 i, v] w fun e w' => e = .returned (.bool false) ∧ Grows w w' := by
  subst hv
  have hZ := Lib.hid (show [(0 : UInt8), 0, 0, 0, 0, 0, 0, 0].length = 8 from rfl)
  go_enter Try.func27, Try.ntmps27
  go_wp2_with fail
  refine (parse_no root _ hr).mono ?_
  rintro e w1 ⟨rfl, g1⟩
  have tz := there_zero w1
  generalize hzz : [(0 : UInt8), 0, 0, 0, 0, 0, 0, 0] = Z at *
  clear hzz
  have g2 := set_grows g1 (bc Z)
  clear hr
  go_wp2_with (first | (refine store8 rfl _ _ rfl rfl rfl hZ tz ?_))
  go_ret
  exact ⟨rfl, g2⟩

set_option maxHeartbeats 1000000 in
theorem vfy_not (root lf : List UInt8) (i : Int) (v : Value) (n : Nat) (a : Option Addr) (cap : Nat) (hv : v = .slice a n cap) (w : World) (hr : root.length = 8) (h : i < 0 ∨ ¬ n ≤ 40 ∨ ¬ i < 2 ^ n) :
    Calls Try.prog 27 #[str root, str lf, .int .i64 i, v] w fun e w' => e = .returned (.bool false) ∧ Grows w w' := by
  subst hv
  have hR := Lib.hid hr
  clear hr
  by_cases h0 : i < 0
  · clear h
    go_enter Try.func27, Try.ntmps27
    go_wp2_with fail
    refine (parse_yes root _ hR.out).mono ?_
    rintro e w1 ⟨rfl, g1⟩
    have tz := there_zero w1
    have g2 := set_grows g1 (bc root)
    go_wp2_with (first | (refine store8 rfl _ _ rfl rfl rfl hR tz ?_))
    all_goals (go_ret; exact ⟨rfl, g2⟩)
  · by_cases h40 : n ≤ 40
    · have hI : ¬ i < 2 ^ n := by
        rcases h with h | h | h
        · exact absurd h h0
        · exact absurd h40 h
        · exact h
      have hsh : (i / 2 ^ n != 0) = true := by
        have hp : (0 : Int) < 2 ^ n := Int.pow_pos (by decide)
        have : 1 ≤ i / 2 ^ n := Int.le_ediv_of_mul_le hp (by omega)
        simp only [bne_iff_ne, ne_eq]
        omega
      have h40i : (n : Int) ≤ 40 := by omega
      clear h hI h40
      go_enter Try.func27, Try.ntmps27
      go_wp2_with fail
      refine (parse_yes root _ hR.out).mono ?_
      rintro e w1 ⟨rfl, g1⟩
      have tz := there_zero w1
      have g2 := set_grows g1 (bc root)
      go_wp2_with (first | (refine store8 rfl _ _ rfl rfl rfl hR tz ?_))
      all_goals (go_ret; exact ⟨rfl, g2⟩)
    · have h40i : ¬ (n : Int) ≤ 40 := by omega
      clear h h40
      go_enter Try.func27, Try.ntmps27
      go_wp2_with fail
      refine (parse_yes root _ hR.out).mono ?_
      rintro e w1 ⟨rfl, g1⟩
      have tz := there_zero w1
      have g2 := set_grows g1 (bc root)
      go_wp2_with (first | (refine store8 rfl _ _ rfl rfl rfl hR tz ?_))
      all_goals (go_ret; exact ⟨rfl, g2⟩)

theorem vfy_any (root lf : List UInt8) (i : Int) (v : Value) (p : List (List UInt8)) (w : World) (hl : lf.length ≤ 100000) (hv : Row w v (strs p)) :
    Calls Try.prog 27 #[str root, str lf, .int .i64 i, v] w fun e w' => e = .returned (.bool (ver root lf i p)) ∧ Grows w w' := by
  have hform : ∃ a cap, v = .slice a p.length cap := by
    obtain ⟨a, cap, h, _⟩ := hv
    exact ⟨a, cap, by rw [h, strs_length]⟩
  obtain ⟨a, cap, hf⟩ := hform
  by_cases hr : root.length = 8
  · by_cases h : i < 0 ∨ ¬ p.length ≤ 40 ∨ ¬ i < 2 ^ p.length
    · rw [ver_no (decide_eq_false fun hh => by
        rcases h with h | h | h
        · omega
        · exact h hh.2.1
        · exact h hh.2.2.1)]
      exact vfy_not root lf i v p.length a cap hf w hr h
    · obtain ⟨n, rfl⟩ := Int.eq_ofNat_of_zero_le (show 0 ≤ i by omega)
      have h1 : p.length ≤ 40 := by
        rcases Nat.lt_or_ge 40 p.length with h2 | h2
        · exact absurd (.inr (.inl (by omega))) h
        · exact h2
      have h2 : ((n : Nat) : Int) < 2 ^ p.length := by
        by_cases h3 : ((n : Nat) : Int) < 2 ^ p.length
        · exact h3
        · exact absurd (.inr (.inr h3)) h
      exact vfy_loop root lf n v p w hr hl hv h1 (by exact_mod_cast h2)
  · have e : ver root lf i p = false := decide_eq_false fun hh => hr (by rw [← hh.2.2.2.2]; exact upOf_length _ _ (dig_length _))
    rw [e]
    exact vfy_root root lf i v p.length a cap hf w hr

end Go.Proofs.Ytmgkbkpfhpkbcaa
