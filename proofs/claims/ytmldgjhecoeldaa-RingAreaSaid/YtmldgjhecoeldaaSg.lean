/- ring.segments: what it hands back hands out the segments of a ring. -/
import Derived.Test.YtmldgjhecoeldaaSeg
import Derived.Test.YtmldgjhecoeldaaGg
namespace Go.Proofs.Ytmldgjhecoeldaa
open Go.RowKit Go.Lib

/-- The k-th segment of a ring, as two values. -/
def rgenc (ps : List (Int × Int)) (k : Nat) : Array Value := #[.agg #[.int .i64 (pt ps k).1, .int .i64 (pt ps k).2], .agg #[.int .i64 (pt ps (nx ps.length k)).1, .int .i64 (pt ps (nx ps.length k)).2]]

theorem rsegs_any (a : Option Addr) (n c : Nat) (w : World) : Calls Try.prog 30 #[.slice a n c] w fun e w' => e = .returned (.func (.func 58) #[] #[.pointer (some ⟨w.heap.size, 0, none⟩)]) ∧ w.alloc (.cells #[.slice a n c] 25) = w' := by
  go_enter Try.func30, Try.ntmps30
  go_wp2_with fail
  go_ret
  exact ⟨rfl, rfl⟩

/-- The remainder of a next index. -/
theorem nx_rem {K k : Nat} (h : k < K) : ((k : Int) + 1).tmod K = (nx K k : Nat) ∧ (0 : Int) ≤ nx K k ∧ ((nx K k : Nat) : Int) < K := by
  have h1 := nx_lt h
  refine ⟨?_, by omega, by omega⟩
  rw [show ((k : Int) + 1) = ((k + 1 : Nat) : Int) by omega, Int.tmod_eq_emod_of_nonneg (by omega)]
  unfold nx
  split
  · next e => rw [e]; simp
  · rw [Int.emod_eq_of_lt (by omega) (by omega)]

set_option maxRecDepth 100000 in
set_option maxHeartbeats 2000000 in
theorem rseg_seq (n : Nat) (ps : List (Int × Int)) (v : Value) (B : Nat) (w0 : World) :
    Seq n 58 #[.pointer (some ⟨B, 0, none⟩)] ps.length (rgenc ps) (fun W => W.cell? ⟨B, 0, none⟩ = some v ∧ RowP W v ps) w0 := by
  intro l J Jx W hW hJ hL hY hJx h0
  obtain ⟨a, cap, rfl, hc1, hc2, -⟩ := (hL _ _ h0).2
  have hB' := (hL _ _ h0).1
  obtain ⟨K, hK⟩ : ∃ K, ps.length = K := ⟨_, rfl⟩
  rw [hK] at hY ⊢
  have HL := Lib.hid hL
  have HY := Lib.hid hY
  have HJ := Lib.hid hJ
  have HX := Lib.hid hJx
  clear hL hY hJ hJx
  rw [hK] at hB' hc1
  have HK := Lib.hid hK
  clear hK
  refine callsIn_of_wp Try.func58 rfl trivial ?_ rfl
  simp only [Try.ntmps58, List.size_toArray, List.length_cons, List.length_nil, Nat.reduceAdd, Nat.reduceSub, Array.replicate_succ, Array.replicate_zero, List.push_toArray, List.append_toArray, List.nil_append, List.cons_append]
  gi_wp2_with fail
  gi_loopw [7] (fun i wr => ∃ k : Nat, k ≤ K ∧ i = .int .i64 k ∧ J k wr) (fun i _ => K - (RowKit.intOf i).toNat)
  case atStart => exact ⟨0, Nat.zero_le _, rfl, h0⟩
  case round =>
    clear h0 hB' hW
    obtain ⟨k, hk, rfl, hJk⟩ := hrel
    by_cases hlt : k < K
    · obtain ⟨hb, hR⟩ := HL.out _ _ hJk
      obtain ⟨a', cap', he, -, -, hq⟩ := hR
      injection he with e1 e2 e3
      subst e1 e3
      clear e2
      obtain ⟨b, o, rfl, hqq⟩ := hq.resolve_left (by intro h; have := HK.out; rw [h] at this; simp at this; omega)
      obtain ⟨p, hp⟩ : ∃ p, ps[k]? = some p := ⟨_, List.getElem?_eq_getElem (by rw [HK.out]; omega)⟩
      obtain ⟨x, y⟩ := p
      obtain ⟨c0, c1⟩ := hqq k _ hp
      simp only at c0 c1
      rw [HK.out] at hb
      have b1 : (k : Int) < K := by omega
      have b2 : (0 : Int) ≤ k := by omega
      gi_wp2_with fail
      clear c0 c1 hb b1 b2 hqq hq
      obtain ⟨w1, hw1⟩ : ∃ w1, wr.alloc (.cells #[.int .i64 x, .int .i64 y] 24) = w1 := ⟨_, rfl⟩
      have k0 : w1.cell? ⟨wr.heap.size, 0, none⟩ = some (.int .i64 x) := by rw [← hw1]; exact ((Cells.made wr [.int .i64 x, .int .i64 y] 24).get 0 rfl).1
      have k1 : w1.cell? ⟨wr.heap.size, 1, none⟩ = some (.int .i64 y) := by rw [← hw1]; exact ((Cells.made wr [.int .i64 x, .int .i64 y] 24).get 1 rfl).1
      have g1 : Grows wr w1 := by rw [← hw1]; exact (Below.refl _ wr).alloc (Nat.le_refl _) _
      rw [hw1]
      generalize wr.heap.size = N at *
      clear hw1
      have hJ1 := HJ.out k wr w1 hJk g1
      obtain ⟨hb, hR⟩ := HL.out _ _ hJ1
      obtain ⟨a', cap', he, -, -, hq⟩ := hR
      injection he with e1 e2 e3
      subst e1 e3
      clear e2
      obtain ⟨b', o', he, hqq⟩ := hq.resolve_left (by intro h; have := HK.out; rw [h] at this; simp at this; omega)
      injection he with he
      injection he with e1 e2
      subst e1 e2
      have hnk := nx_lt hlt
      obtain ⟨p', hp'⟩ : ∃ p, ps[nx K k]? = some p := ⟨_, List.getElem?_eq_getElem (by rw [HK.out]; omega)⟩
      obtain ⟨x', y'⟩ := p'
      obtain ⟨c0, c1⟩ := hqq _ _ hp'
      simp only at c0 c1
      rw [HK.out] at hb
      have hen := Lib.hid (show rgenc ps k = #[.agg #[.int .i64 x, .int .i64 y], .agg #[.int .i64 x', .int .i64 y']] by unfold rgenc pt; rw [HK.out, hp, hp']; rfl)
      clear hp hp' hq hqq
      have ksum : IntKind.i64.wrap ((k : Int) + 1) = (k : Int) + 1 := IntWalk.i64_in _ (by omega)
      obtain ⟨hrem, q0, q1⟩ := nx_rem hlt
      generalize nx K k = j at *
      have q2 : ((K : Int) == 0) = false := by rw [beq_eq_false_iff_ne]; omega
      have q3 : ¬ (K : Int) = 0 := by omega
      have hJ2 := HJ.out k w1 w1.drew hJ1 ((Below.refl _ w1).drew)
      obtain ⟨fn, tmps, assign, body, hy, hR⟩ := HY.out k w1.drew hlt hJ2
      rw [hen.out] at hy
      have hR2 := Lib.hid (RoundIn.mono hR (R' := fun e A => ∃ r, e = .returned (.bool r) ∧ ((r = true ∧ J (k + 1) A) ∨ (r = false ∧ Jx k A))) (by
        rintro e A (⟨rfl, h⟩ | ⟨rfl, h⟩)
        · exact ⟨true, rfl, .inl ⟨rfl, h⟩⟩
        · exact ⟨false, rfl, .inr ⟨rfl, h⟩⟩))
      clear hR hJ1 hJ2
      gi_region_with (refine ⟨fun h => by simp [Fence.wide] at h, hR2.out.mono ?_⟩; rintro e A ⟨r, rfl, hX⟩)
      all_goals
        rcases hX with ⟨rfl, hX⟩ | ⟨rfl, hX⟩
        · gi_wp2_with fail
          go_roundw
          case rel => exact ⟨k + 1, by omega, by go_num, hX⟩
          case measure => simp [RowKit.intOf]; omega
        · gi_wp2_with fail
          refine bodyPost_ret (results_none rfl _ _ _) rfl ?_
          exact ⟨⟨_, rfl⟩, .inr ⟨k, by omega, hX⟩⟩
    · obtain rfl : k = K := by omega
      gi_wp2_with fail
      go_end0
      exact ⟨⟨_, rfl⟩, .inl hJk⟩
end Go.Proofs.Ytmldgjhecoeldaa
