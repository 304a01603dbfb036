/- point.coordinates: what it hands back hands out one coordinate of each point. -/
import Derived.Test.YtoehojopoajcaaaRange
namespace Go.Proofs.Ytoehojopoajcaaa
open Go.RowKit Go.Lib

/-- The cells of a world are what they were. -/
def Kept (w0 W : World) : Prop := ∀ ad v, w0.cell? ad = some v → W.cell? ad = some v
theorem Kept.of {w0 W : World} (g : Grows w0 W) : Kept w0 W := fun _ _ h => (g.cell (World.block_lt_of_cell? w0 _ h)).trans h
theorem Kept.later {w0 W W' : World} (h : Kept w0 W) (g : Grows W W') : Kept w0 W' := fun _ _ c => Kept.of g _ _ (h _ _ c)
theorem Kept.putObj {w0 W : World} {i : Nat} {o o' : Obj} (h : Kept w0 W) (ho : W.heap[i]? = some o) (hc : o.isCells = false) : Kept w0 (W.putObj i o') := fun _ _ c =>
  cell_kept (h _ _ c) (grownBy_putObj' W i o') (fun r e => by cases e; exact ⟨o, ho, hc⟩)
theorem Kept.set {w0 W : World} (h : Kept w0 W) {b o : Nat} (hb : w0.heap.size ≤ b) (u : Value) : Kept w0 (W.setCell ⟨b, o, none⟩ u) := fun ad v c => by
  rw [World.cell?_setCell_other (h := by intro e; have := World.block_lt_of_cell? w0 _ c; rw [← e] at this; simp only at this; omega)]
  exact h _ _ c
theorem Kept.drew {w0 W : World} (h : Kept w0 W) : Kept w0 W.drew := h
/-- Points in memory, as a slice holds them. -/
def RowP (w : World) (v : Value) (ps : List (Int × Int)) : Prop :=
  ∃ a cap, v = .slice a ps.length cap ∧ ps.length ≤ cap ∧ (cap : Int) ≤ 9223372036854775807 ∧ (ps = [] ∨ ∃ b o, a = some ⟨b, o, none⟩ ∧ ∀ i p, ps[i]? = some p → w.cell? ⟨b, o + i * 2, none⟩ = some (.int .i64 p.1) ∧ w.cell? ⟨b, o + i * 2 + 1, none⟩ = some (.int .i64 p.2))
theorem RowP.later {w w' : World} {v : Value} {ps : List (Int × Int)} (h : RowP w v ps) (g : Grows w w') : RowP w' v ps := by
  obtain ⟨a, cap, h1, h2, h3, h4⟩ := h
  refine ⟨a, cap, h1, h2, h3, h4.imp id ?_⟩
  rintro ⟨b, o, e, h⟩
  refine ⟨b, o, e, fun i p hp => ?_⟩
  obtain ⟨c0, c1⟩ := h i p hp
  exact ⟨(g.cell (World.block_lt_of_cell? w _ c0)).trans c0, (g.cell (World.block_lt_of_cell? w _ c1)).trans c1⟩
/-- One coordinate of the k-th point. -/
def pk (sel : Int × Int → Int) (ps : List (Int × Int)) (k : Nat) : Int := sel ((ps[k]?).getD (0, 0))
/-- The least and the greatest one of the first k. -/
def lo (sel : Int × Int → Int) (ps : List (Int × Int)) (k : Nat) : Int := (ps.take k).foldl (fun m p => min m (sel p)) 9223372036854775807
def hi (sel : Int × Int → Int) (ps : List (Int × Int)) (k : Nat) : Int := (ps.take k).foldl (fun m p => max m (sel p)) (-9223372036854775808)
theorem take_pk {ps : List (Int × Int)} {k : Nat} (h : k < ps.length) : ps.take (k + 1) = ps.take k ++ [(ps[k]?).getD (0, 0)] := by
  rw [List.take_add_one, List.getElem?_eq_getElem h]; rfl
theorem lo_next {sel : Int × Int → Int} {ps : List (Int × Int)} {k : Nat} (h : k < ps.length) : lo sel ps (k + 1) = min (lo sel ps k) (pk sel ps k) := by
  unfold lo; rw [take_pk h, List.foldl_append]; rfl
theorem hi_next {sel : Int × Int → Int} {ps : List (Int × Int)} {k : Nat} (h : k < ps.length) : hi sel ps (k + 1) = max (hi sel ps k) (pk sel ps k) := by
  unfold hi; rw [take_pk h, List.foldl_append]; rfl

theorem coords_any (a : Option Addr) (n c F : Nat) (w : World) : Calls Try.prog 46 #[.slice a n c, .func (.func F) #[] #[]] w fun e w' => e = .returned (.func (.func 65) #[] #[.pointer (some ⟨w.heap.size, 0, none⟩), .pointer (some ⟨w.heap.size + 1, 0, none⟩)]) ∧ (w.alloc (.cells #[.slice a n c] 22)).alloc (.cells #[.func (.func F) #[] #[]] 69) = w' := by
  go_enter Try.func46, Try.ntmps46
  go_wp2_with fail
  go_ret
  exact ⟨rfl, rfl⟩
theorem box47_any (x y : Int) (w : World) : Calls Try.prog 47 #[.agg #[.int .i64 x, .int .i64 y]] w fun e w' => e = .returned (.int .i64 x) ∧ Below w.heap.size w w' := by
  have C0 := has1 (w := w) [.int .i64 x, .int .i64 y] 28
  go_enter Try.func47, Try.ntmps47
  go_wp2_with fail
  change Has w _ (w.alloc (.cells #[.int .i64 x, .int .i64 y] 28)) at C0
  generalize w.alloc (.cells #[.int .i64 x, .int .i64 y] 28) = w0 at *
  obtain ⟨k0, k1⟩ := C0.pt
  go_wp2_with fail
  go_ret
  exact ⟨rfl, C0.low⟩
theorem box48_any (x y : Int) (w : World) : Calls Try.prog 48 #[.agg #[.int .i64 x, .int .i64 y]] w fun e w' => e = .returned (.int .i64 y) ∧ Below w.heap.size w w' := by
  have C0 := has1 (w := w) [.int .i64 x, .int .i64 y] 28
  go_enter Try.func48, Try.ntmps48
  go_wp2_with fail
  change Has w _ (w.alloc (.cells #[.int .i64 x, .int .i64 y] 28)) at C0
  generalize w.alloc (.cells #[.int .i64 x, .int .i64 y] 28) = w0 at *
  obtain ⟨k0, k1⟩ := C0.pt
  go_wp2_with fail
  go_ret
  exact ⟨rfl, C0.low⟩

set_option maxRecDepth 100000 in
set_option maxHeartbeats 2000000 in
theorem iter47_seq (n : Nat) (ps : List (Int × Int)) (v : Value) (B C : Nat) (w0 : World) (hv : RowP w0 v ps) (hB : w0.cell? ⟨B, 0, none⟩ = some v) (hC : w0.cell? ⟨C, 0, none⟩ = some (.func (.func 47) #[] #[])) (hne : 1 ≤ ps.length) :
    LvSeq n 65 #[.pointer (some ⟨B, 0, none⟩), .pointer (some ⟨C, 0, none⟩)] (ps.length - 1) (fun _ k => .int .i64 (pk Prod.fst ps k)) (fun _ _ W => Kept w0 W) w0 := by
  intro l J Jx W hW hJ hY h0
  obtain ⟨a, cap, rfl, hc1, hc2, hq⟩ := hv
  replace hq : ∃ b o, a = some ⟨b, o, none⟩ ∧ ∀ i p, ps[i]? = some p → w0.cell? ⟨b, o + i * 2, none⟩ = some (.int .i64 p.1) ∧ w0.cell? ⟨b, o + i * 2 + 1, none⟩ = some (.int .i64 p.2) := by
    rcases hq with rfl | h
    · simp at hne
    · exact h
  obtain ⟨b, o, rfl, hq⟩ := hq
  have hB' : W.cell? ⟨B, 0, none⟩ = some (.slice (some ⟨b, o, none⟩) ps.length cap) := (hW.cell (World.block_lt_of_cell? w0 _ hB)).trans hB
  have HC := Lib.hid hC
  have HQ := Lib.hid hq
  have HJ := Lib.hid hJ
  have HY := Lib.hid hY
  clear hJ hY hB hC hq
  refine callsIn_of_wp Try.func65 rfl trivial ?_ rfl
  simp only [Try.ntmps65, List.size_toArray, List.length_cons, List.length_nil, Nat.reduceAdd, Nat.reduceSub, Array.replicate_succ, Array.replicate_zero, List.push_toArray, List.append_toArray, List.nil_append, List.cons_append]
  gi_wp2_with fail
  gi_loopw [8] (fun i wr => ∃ k : Nat, k ≤ ps.length ∧ i = .int .i64 k ∧ J k wr ∧ Kept w0 wr) (fun i _ => ps.length - (RowKit.intOf i).toNat)
  case atStart => exact ⟨0, Nat.zero_le _, rfl, h0, Kept.of hW⟩
  case round =>
    clear h0 hW hB'
    obtain ⟨k, hk, rfl, hJk, hG⟩ := hrel
    by_cases hlt : k < ps.length
    · obtain ⟨p, hp⟩ : ∃ p, ps[k]? = some p := ⟨_, List.getElem?_eq_getElem hlt⟩
      obtain ⟨x, y⟩ := p
      obtain ⟨d0, d1⟩ := HQ.out k _ hp
      have c0 := hG _ _ d0
      have c1 := hG _ _ d1
      simp only at c0 c1
      have hpk := Lib.hid (show pk Prod.fst ps k = x by unfold pk; rw [hp]; rfl)
      clear d0 d1 hp
      have E := has1 (w := wr) [.int .i64 x, .int .i64 y] 28
      change Has wr _ (wr.alloc (.cells #[.int .i64 x, .int .i64 y] 28)) at E
      have gz : Grows wr (wr.alloc (.cells #[.int .i64 x, .int .i64 y] 28)) := E.low
      obtain ⟨k0, k1⟩ := E.pt
      have hz := hG.later gz
      have kc := hz _ _ HC.out
      gi_wp2_with fail
      refine ⟨trivial, fun h => by simp [Fence.wide] at h, (callsIn_wide.2 (box47_any x y _)).mono ?_⟩
      rintro e z1 ⟨rfl, g1⟩
      have hJ1 := HJ.out _ _ _ hJk (gz.then g1)
      have hz1 := hz.later g1
      clear k0 k1 kc c0 c1 gz g1 hz E hJk hG
      obtain ⟨fn, tmps, assign, body, hy, hR⟩ := HY.out k 0 z1 (by omega) hJ1 hz1
      clear hJ1 hz1
      rw [hpk.out] at hy
      gi_wp2_with fail
      refine ⟨fun h => by simp [Fence.wide] at h, hR.mono ?_⟩
      rintro e A (⟨rfl, hJ', hL'⟩ | ⟨rfl, hJx'⟩)
      · clear hR hy
        gi_wp2_with fail
        go_roundw
        case rel => exact ⟨k + 1, by omega, by go_num, hJ', hL'⟩
        case measure => simp [RowKit.intOf]; omega
      · clear hR hy
        gi_wp2_with fail
        refine bodyPost_ret (results_none rfl _ _ _) rfl ?_
        exact ⟨⟨_, rfl⟩, .inr ⟨k, by omega, hJx'⟩⟩
    · obtain rfl : k = ps.length := by omega
      gi_wp2_with fail
      go_end0
      exact ⟨⟨_, rfl⟩, .inl (by rw [Nat.sub_add_cancel hne]; exact hJk)⟩

set_option maxRecDepth 100000 in
set_option maxHeartbeats 2000000 in
theorem iter48_seq (n : Nat) (ps : List (Int × Int)) (v : Value) (B C : Nat) (w0 : World) (hv : RowP w0 v ps) (hB : w0.cell? ⟨B, 0, none⟩ = some v) (hC : w0.cell? ⟨C, 0, none⟩ = some (.func (.func 48) #[] #[])) (hne : 1 ≤ ps.length) :
    LvSeq n 65 #[.pointer (some ⟨B, 0, none⟩), .pointer (some ⟨C, 0, none⟩)] (ps.length - 1) (fun _ k => .int .i64 (pk Prod.snd ps k)) (fun _ _ W => Kept w0 W) w0 := by
  intro l J Jx W hW hJ hY h0
  obtain ⟨a, cap, rfl, hc1, hc2, hq⟩ := hv
  replace hq : ∃ b o, a = some ⟨b, o, none⟩ ∧ ∀ i p, ps[i]? = some p → w0.cell? ⟨b, o + i * 2, none⟩ = some (.int .i64 p.1) ∧ w0.cell? ⟨b, o + i * 2 + 1, none⟩ = some (.int .i64 p.2) := by
    rcases hq with rfl | h
    · simp at hne
    · exact h
  obtain ⟨b, o, rfl, hq⟩ := hq
  have hB' : W.cell? ⟨B, 0, none⟩ = some (.slice (some ⟨b, o, none⟩) ps.length cap) := (hW.cell (World.block_lt_of_cell? w0 _ hB)).trans hB
  have HC := Lib.hid hC
  have HQ := Lib.hid hq
  have HJ := Lib.hid hJ
  have HY := Lib.hid hY
  clear hJ hY hB hC hq
  refine callsIn_of_wp Try.func65 rfl trivial ?_ rfl
  simp only [Try.ntmps65, List.size_toArray, List.length_cons, List.length_nil, Nat.reduceAdd, Nat.reduceSub, Array.replicate_succ, Array.replicate_zero, List.push_toArray, List.append_toArray, List.nil_append, List.cons_append]
  gi_wp2_with fail
  gi_loopw [8] (fun i wr => ∃ k : Nat, k ≤ ps.length ∧ i = .int .i64 k ∧ J k wr ∧ Kept w0 wr) (fun i _ => ps.length - (RowKit.intOf i).toNat)
  case atStart => exact ⟨0, Nat.zero_le _, rfl, h0, Kept.of hW⟩
  case round =>
    clear h0 hW hB'
    obtain ⟨k, hk, rfl, hJk, hG⟩ := hrel
    by_cases hlt : k < ps.length
    · obtain ⟨p, hp⟩ : ∃ p, ps[k]? = some p := ⟨_, List.getElem?_eq_getElem hlt⟩
      obtain ⟨x, y⟩ := p
      obtain ⟨d0, d1⟩ := HQ.out k _ hp
      have c0 := hG _ _ d0
      have c1 := hG _ _ d1
      simp only at c0 c1
      have hpk := Lib.hid (show pk Prod.snd ps k = y by unfold pk; rw [hp]; rfl)
      clear d0 d1 hp
      have E := has1 (w := wr) [.int .i64 x, .int .i64 y] 28
      change Has wr _ (wr.alloc (.cells #[.int .i64 x, .int .i64 y] 28)) at E
      have gz : Grows wr (wr.alloc (.cells #[.int .i64 x, .int .i64 y] 28)) := E.low
      obtain ⟨k0, k1⟩ := E.pt
      have hz := hG.later gz
      have kc := hz _ _ HC.out
      gi_wp2_with fail
      refine ⟨trivial, fun h => by simp [Fence.wide] at h, (callsIn_wide.2 (box48_any x y _)).mono ?_⟩
      rintro e z1 ⟨rfl, g1⟩
      have hJ1 := HJ.out _ _ _ hJk (gz.then g1)
      have hz1 := hz.later g1
      clear k0 k1 kc c0 c1 gz g1 hz E hJk hG
      obtain ⟨fn, tmps, assign, body, hy, hR⟩ := HY.out k 0 z1 (by omega) hJ1 hz1
      clear hJ1 hz1
      rw [hpk.out] at hy
      gi_wp2_with fail
      refine ⟨fun h => by simp [Fence.wide] at h, hR.mono ?_⟩
      rintro e A (⟨rfl, hJ', hL'⟩ | ⟨rfl, hJx'⟩)
      · clear hR hy
        gi_wp2_with fail
        go_roundw
        case rel => exact ⟨k + 1, by omega, by go_num, hJ', hL'⟩
        case measure => simp [RowKit.intOf]; omega
      · clear hR hy
        gi_wp2_with fail
        refine bodyPost_ret (results_none rfl _ _ _) rfl ?_
        exact ⟨⟨_, rfl⟩, .inr ⟨k, by omega, hJx'⟩⟩
    · obtain rfl : k = ps.length := by omega
      gi_wp2_with fail
      go_end0
      exact ⟨⟨_, rfl⟩, .inl (by rw [Nat.sub_add_cancel hne]; exact hJk)⟩

end Go.Proofs.Ytoehojopoajcaaa
