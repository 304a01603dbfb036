/- line.segments: what it hands back hands out the segments of a list. -/
import Derived.Test.YtmldgjhecoeldaaSeq
import Derived.Test.YtmldgjhecoeldaaBx
import Derived.Stop.RegionWithIn
namespace Go.Proofs.Ytmldgjhecoeldaa
open Go.RowKit Go.Lib

/-- The k-th point. -/
def pt (ps : List (Int × Int)) (k : Nat) : Int × Int := (ps[k]?).getD (0, 0)
/-- The k-th segment, as a value. -/
def sgv (ps : List (Int × Int)) (k : Nat) : Value := .agg #[.int .i64 (pt ps k).1, .int .i64 (pt ps k).2, .int .i64 (pt ps (k + 1)).1, .int .i64 (pt ps (k + 1)).2]
def sgenc (ps : List (Int × Int)) (k : Nat) : Array Value := #[.int .i64 k, sgv ps k]

theorem segments_any (a : Option Addr) (n c : Nat) (w : World) : Calls Try.prog 81 #[.slice a n c] w fun e w' => e = .returned (.func (.func 96) #[] #[.pointer (some ⟨w.heap.size, 0, none⟩)]) ∧ w.alloc (.cells #[.slice a n c] 25) = w' := by
  go_enter Try.func81, Try.ntmps81
  go_wp2_with fail
  go_ret
  exact ⟨rfl, rfl⟩

set_option maxRecDepth 100000 in
set_option maxHeartbeats 2000000 in
theorem seg_seq (n : Nat) (ps : List (Int × Int)) (v : Value) (B : Nat) (w0 : World) :
    Seq n 96 #[.pointer (some ⟨B, 0, none⟩)] (ps.length - 1) (sgenc ps) (fun W => W.cell? ⟨B, 0, none⟩ = some v ∧ RowP W v ps) w0 := by
  intro l J Jx W hW hJ hL hY hJx h0
  obtain ⟨a, cap, rfl, hc1, hc2, -⟩ := (hL _ _ h0).2
  have hB' := (hL _ _ h0).1
  rcases Nat.eq_zero_or_pos ps.length with hz | hp
  · have HL := Lib.hid hL
    have HY := Lib.hid hY
    clear hL hY hJ hJx
    rw [hz] at hB' hc1 ⊢
    clear hz
    refine callsIn_of_wp Try.func96 rfl trivial ?_ rfl
    simp only [Try.ntmps96, List.size_toArray, List.length_cons, List.length_nil, Nat.reduceAdd, Nat.reduceSub, Array.replicate_succ, Array.replicate_zero, List.push_toArray, List.append_toArray, List.nil_append, List.cons_append]
    gi_wp2_with fail
    gi_loopw [7] (fun i wr => i = .int .i64 0 ∧ J 0 wr) (fun i _ => 0)
    case atStart => exact ⟨rfl, h0⟩
    case round =>
      obtain ⟨rfl, hJk⟩ := hrel
      gi_wp2_with fail
      go_end0
      exact ⟨⟨_, rfl⟩, .inl hJk⟩
  · obtain ⟨K, hK⟩ : ∃ K, ps.length = K + 1 := ⟨ps.length - 1, by omega⟩
    rw [show ps.length - 1 = K by omega] at hY ⊢
    have HL := Lib.hid hL
    have HY := Lib.hid hY
    have HJ := Lib.hid hJ
    have HX := Lib.hid hJx
    clear hL hY hJ hJx hp
    rw [hK] at hB' hc1
    have HK := Lib.hid hK
    clear hK
    have hs : ((K : Int) + 1 - 1) = K := by omega
    refine callsIn_of_wp Try.func96 rfl trivial ?_ rfl
    simp only [Try.ntmps96, List.size_toArray, List.length_cons, List.length_nil, Nat.reduceAdd, Nat.reduceSub, Array.replicate_succ, Array.replicate_zero, List.push_toArray, List.append_toArray, List.nil_append, List.cons_append]
    gi_wp2_with fail
    gi_loopw [7] (fun i wr => ∃ k : Nat, k ≤ K ∧ i = .int .i64 k ∧ J k wr) (fun i _ => K - (RowKit.intOf i).toNat)
    case atStart => exact ⟨0, Nat.zero_le _, rfl, h0⟩
    case round =>
      clear h0 hB' hW
      obtain ⟨k, hk, rfl, hJk⟩ := hrel
      by_cases hlt : k < K
      · obtain ⟨hb, hR⟩ := HL.out _ _ hJk
        obtain ⟨a', cap', he, -, -, hq⟩ := hR
        injection he with e1 e2 e3
        subst e1 e3
        clear e2
        obtain ⟨b, o, rfl, hqq⟩ := hq.resolve_left (by intro h; have := HK.out; rw [h] at this; simp at this)
        obtain ⟨p, hp⟩ : ∃ p, ps[k]? = some p := ⟨_, List.getElem?_eq_getElem (by rw [HK.out]; omega)⟩
        obtain ⟨q, hq2⟩ : ∃ p, ps[k + 1]? = some p := ⟨_, List.getElem?_eq_getElem (by rw [HK.out]; omega)⟩
        obtain ⟨x, y⟩ := p
        obtain ⟨x', y'⟩ := q
        obtain ⟨c0, c1⟩ := hqq k _ hp
        obtain ⟨c2, c3⟩ := hqq (k + 1) _ hq2
        simp only at c0 c1 c2 c3
        have hen := Lib.hid (show sgenc ps k = #[.int .i64 k, .agg #[.int .i64 x, .int .i64 y, .int .i64 x', .int .i64 y']] by unfold sgenc sgv pt; rw [hp, hq2]; rfl)
        clear hp hq2 hq hqq
        have ksum : IntKind.i64.wrap ((k : Int) + 1) = ((k + 1 : Nat) : Int) := by rw [IntWalk.i64_in _ (by omega)]; rfl
        rw [HK.out] at hb
        have hJ1 := HJ.out k wr wr.drew hJk ((Below.refl _ wr).drew)
        obtain ⟨fn, tmps, assign, body, hy, hR⟩ := HY.out k wr.drew hlt hJ1
        rw [hen.out] at hy
        have hR2 := Lib.hid (RoundIn.mono hR (R' := fun e A => ∃ r, e = .returned (.bool r) ∧ ((r = true ∧ J (k + 1) A) ∨ (r = false ∧ Jx k A))) (by
          rintro e A (⟨rfl, h⟩ | ⟨rfl, h⟩)
          · exact ⟨true, rfl, .inl ⟨rfl, h⟩⟩
          · exact ⟨false, rfl, .inr ⟨rfl, h⟩⟩))
        clear hR hJ1
        gi_wp2_with fail
        have b1 : (k : Int) < K + 1 := by omega
        have b2 : (0 : Int) ≤ k := by omega
        have b3 : (k : Int) + 1 < K + 1 := by omega
        have b4 : (0 : Int) ≤ (k : Int) + 1 := by omega
        have b5 : ((k : Int) + 1).toNat = k + 1 := by omega
        gi_region_with (refine ⟨fun h => by simp [Fence.wide] at h, hR2.out.mono ?_⟩; rintro e A ⟨r, rfl, hX⟩)
        all_goals
          rcases hX with ⟨rfl, hX⟩ | ⟨rfl, hX⟩
          · gi_wp2_with fail
            go_roundw
            case rel => exact ⟨k + 1, by omega, by go_num, hX⟩
            case measure => simp [RowKit.intOf]; omega
          · gi_wp2_with fail
            refine bodyPost_ret (results_none rfl _ _ _) rfl ?_
            exact ⟨⟨_, rfl⟩, .inr ⟨k, by omega, hX⟩⟩
      · obtain rfl : k = K := by omega
        gi_wp2_with fail
        go_end0
        exact ⟨⟨_, rfl⟩, .inl hJk⟩

end Go.Proofs.Ytmldgjhecoeldaa
