/- Draws: the next number of a list of numbers. Made lists: the points of a list of numbers. Lists cut short. Lists of points: turned and moved. The reference: Add and Turn. Two lists of the call's own: to append to one leaves the other. The rings that the reference makes. -/
import Derived.Test.YtoaldbjcpfkcjaaGreatcB8
import Derived.Test.YtoaldbjcpfkcjaaGreatcB6
import Derived.Test.YtoaldbjcpfkcjaaGreatcB7
import Derived.Test.YtoaldbjcpfkcjaaGreatcB9
import Derived.Test.YtoaldbjcpfkcjaaGreatcB5
namespace Go.Proofs.YtoaldbjcpfkcjaaGreat
open Go.RowKit Go.Lib

/-- A slice of numbers. -/
def RowN (w : World) (v : Value) (xs : List Int) : Prop :=
 ∃ a cap, v = .slice a xs.length cap ∧ xs.length ≤ cap ∧ (cap : Int) ≤ 9223372036854775807 ∧ (xs = [] ∨ ∃ b o, a = some ⟨b, o, none⟩ ∧ ∀ i x, xs[i]? = some x → w.cell? ⟨b, o + i, none⟩ = some (.int .i64 x))
theorem RowN.later {w w' : World} {v : Value} {xs : List Int} (h : RowN w v xs) (g : Grows w w') : RowN w' v xs := by
 obtain ⟨a, cap, h1, h2, h3, h4⟩ := h
 refine ⟨a, cap, h1, h2, h3, h4.imp id ?_⟩
 rintro ⟨b, o, e, h⟩
 exact ⟨b, o, e, fun i x hx => (g.cell (World.block_lt_of_cell? w _ (h i x hx))).trans (h i x hx)⟩

/-- The heap is what it was but for block b, and may have grown. -/
def Oth (b : Nat) (w w' : World) : Prop := w.heap.size ≤ w'.heap.size ∧ ∀ k, k ≠ b → k < w.heap.size → w'.heap[k]? = w.heap[k]?
theorem Oth.refl (b : Nat) (w : World) : Oth b w w := ⟨Nat.le_refl _, fun _ _ _ => rfl⟩
theorem Oth.of {b : Nat} {w w' : World} (g : Grows w w') : Oth b w w' := ⟨g.size, fun k _ hk => g.block k hk⟩
theorem Oth.then {b : Nat} {w w' w'' : World} (h : Oth b w w') (g : Oth b w' w'') : Oth b w w'' := ⟨Nat.le_trans h.1 g.1, fun k hk hl => (g.2 k hk (Nat.lt_of_lt_of_le hl h.1)).trans (h.2 k hk hl)⟩
theorem Oth.set (b i : Nat) (w : World) (u : Value) : Oth b w (w.setCell ⟨b, i, none⟩ u) := ⟨Nat.le_of_eq (World.size_setCell ..).symm, fun k hk _ => Below.heap_setCell w ⟨b, i, none⟩ u k hk⟩
theorem Oth.own {b B : Nat} {w w' : World} {v : Value} {ps : List (Int × Int)} (h : Oth b w w') (hb : b < B) (ho : Own B w v ps) : Own B w' v ps := by
 refine ⟨ho.1, ?_⟩
 rcases ho.2 with h2 | ⟨k, cap, cur, h1, h2, h3, h4⟩
 ·exact .inl h2
 ·exact .inr ⟨k, cap, cur, h1, h2, (h.2 k (by omega) (Array.getElem?_eq_some_iff.1 h3).1).trans h3, h4⟩

set_option linter.unusedSimpArgs false in
set_option maxRecDepth 100000 in
set_option maxHeartbeats 4000000 in
theorem next_any {w0 w : World} {b : Nat} {bs : List (Nat × List Value)} {v : Value} {xs : List Int} {t : Int} (C : Has w0 ((b, [v, .int .i64 t]) :: bs) w) (R : RowN w0 v xs) (ht : 0 ≤ t) (m : Int) (hm : 1 ≤ m) (hm' : m ≤ 1000) :
  Calls Tryz.prog 31 #[.pointer (some ⟨b, 0, none⟩), .int .i64 m] w fun e w' => ∃ r t', e = .returned (.int .i64 r) ∧ 0 ≤ r ∧ r < m ∧ 0 ≤ t' ∧ Has w0 ((b, [v, .int .i64 t']) :: bs) w' ∧ Oth b w w' := by
 have R0 := R.later C.low
 obtain ⟨a, cap, rfl, h1, h2, -⟩ := R0
 obtain ⟨a', cap', e', -, -, h3⟩ := R
 simp only [Value.slice.injEq, true_and] at e'
 obtain ⟨rfl, rfl⟩ := e'
 have C1 := C.drew
 obtain ⟨c0, c1⟩ := C1.pt
 by_cases hlt : t < (xs.length : Int)
 ·have hx : ∃ bb o, a = some ⟨bb, o, none⟩ ∧ ∀ i x, xs[i]? = some x → w0.cell? ⟨bb, o + i, none⟩ = some (.int .i64 x) := by
   rcases h3 with rfl | h3
   ·simp at hlt; omega
   ·exact h3
  obtain ⟨bb, o, rfl, hx⟩ := hx
  have b1 : decide (t ≥ (xs.length : Int)) = false := decide_eq_false (by omega)
  clear h3
  obtain ⟨y, hy⟩ : ∃ y, xs[t.toNat]? = some y := ⟨_, List.getElem?_eq_getElem (by omega)⟩
  have HC := Lib.hid (hx _ _ hy)
  generalize hn : xs.length = n at *
  have w1 : wrap64 (t + 1) = t + 1 := IntWalk.wrap64_in _ ⟨by omega, by omega⟩
  have w3' : IntKind.i64.wrap t = t := by rw [IntKind.wrap_i64]; omega
  have w2 : IntKind.i64.wrap (t + 1) = t + 1 := by rw [IntKind.wrap_i64]; omega
  clear hx hy
  have f1 := C1.free (.head _) (i := 1) rfl
  go_enter Tryz.func31, Tryz.ntmps31
  go_wp2_with fail
  go_region
  go_wp2_with fail
  have C2 := (C.set 1 (by simp) (.int .i64 (t + 1))).drew
  clear c0 c1 f1
  change Has w0 ((b, [.slice (some ⟨bb, o, none⟩) n cap, .int .i64 (t + 1)]) :: bs) ((w.setCell ⟨b, 1, none⟩ (.int .i64 (t + 1))).drew) at C2
  have C2 := C2.drew
  have O2 : Oth b w (w.setCell ⟨b, 1, none⟩ (.int .i64 (t + 1))).drew.drew := (Oth.set b 1 w _).then (Oth.of (((Below.refl _ _).drew).drew))
  have HS := Lib.hid (show ∀ w', Has w0 ((b, [.slice (some ⟨bb, o, none⟩) n cap, .int .i64 (t + 1)]) :: bs) w' → (w'.cell? ⟨b, 0, none⟩ = some (.slice (some ⟨bb, o, none⟩) n cap) ∧ w'.cell? ⟨b, 1, none⟩ = some (.int .i64 (t + 1)) ∧ w'.cell? ⟨bb, o + t.toNat, none⟩ = some (.int .i64 y)) ∧ Has w0 ((b, [.slice (some ⟨bb, o, none⟩) n cap, .int .i64 (t + 1)]) :: bs) w' from fun w' h => by
   exact ⟨⟨h.fact (.head _) (i := 0) rfl, h.fact (.head _) (i := 1) rfl, (h.low.cell (World.block_lt_of_cell? _ _ HC.out)).trans HC.out⟩, h⟩)
  refine wp_region_held_drew (S := (fun w' => (w'.cell? ⟨b, 0, none⟩ = some (.slice (some ⟨bb, o, none⟩) n cap) ∧ w'.cell? ⟨b, 1, none⟩ = some (.int .i64 (t + 1)) ∧ w'.cell? ⟨bb, o + t.toNat, none⟩ = some (.int .i64 y)) ∧ Has w0 ((b, [.slice (some ⟨bb, o, none⟩) n cap, .int .i64 (t + 1)]) :: bs) w')) (by kernel_rfl) (HS.out _ C2) (fun hHeld => ?_)
  refine tbA [0, 1, 2, 3, 4, 5, 6, 7, 8, 9, 10, 11] ?_
  refine tkA (.pointer (some ⟨b, 0, none⟩)) (oi := ⟨some 22, .move (.tmp 0), 59, _, _, none⟩) ?_
  simp only [Act.put, pA, pB, pC]
  refine tkA (.pointer (some ⟨b, 0, none⟩)) (oi := ⟨some 23, .nilCheck (.tmp 22), 0, _, _, none⟩) ?_
  simp only [Act.put, pA, pB, pC]
  refine tkA (.pointer (some ⟨b, 0, none⟩)) (oi := ⟨some 24, .fieldAddr 61 (.tmp 23) 0, 0, _, _, none⟩) ?_
  simp only [Act.put, pA, pB, pC]
  refine tkA (.slice (some ⟨bb, o, none⟩) n cap) (oi := ⟨some 25, .load 22 (.tmp 24), 22, _, _, none⟩) ?_
  simp only [Act.put, pA, pB, pC]
  refine tkA (.pointer (some ⟨b, 0, none⟩)) (oi := ⟨some 26, .move (.tmp 0), 59, _, _, none⟩) ?_
  simp only [Act.put, pA, pB, pC]
  refine tkA (.pointer (some ⟨b, 0, none⟩)) (oi := ⟨some 27, .nilCheck (.tmp 26), 0, _, _, none⟩) ?_
  simp only [Act.put, pA, pB, pC]
  refine tkA (.pointer (some ⟨b, 1, none⟩)) (oi := ⟨some 28, .fieldAddr 61 (.tmp 27) 1, 0, _, _, none⟩) ?_
  simp only [Act.put, pA, pB, pC]
  refine tkA (.int .i64 (t + 1)) (oi := ⟨some 29, .load 3 (.tmp 28), 3, _, _, none⟩) ?_
  simp only [Act.put, pA, pB, pC]
  refine tkA (.int .i64 t) (oi := ⟨some 30, .binOp .sub 3 (.tmp 29) (.const (.int .i64 1)) 3, 3, _, _, none⟩) ?_
  simp only [Act.put, pA, pB, pC]
  refine tkA (.pointer (some ⟨bb, o + t.toNat, none⟩)) (oi := ⟨some 31, .indexAddr 22 (.tmp 25) (.tmp 30), 0, _, _, none⟩) ?_
  simp only [Act.put, pA, pB, pC]
  refine tkA (.int .i64 y) (oi := ⟨some 32, .load 3 (.tmp 31), 3, _, _, none⟩) ?_
  simp only [Act.put, pA, pB, pC]
  refine tkA (.int .i64 m) (oi := ⟨some 33, .move (.tmp 1), 3, _, _, none⟩) ?_
  simp only [Act.put, pA, pB, pC]
  refine teA ?_
  refine tlA #[true, true, true, true, true, true, true, true, true, true, true, true, false, false] ?_
  refine trA [12] ?_
  refine AllReadyH.cons (o := ⟨some 34, .call { callee := .value (.func 55), args := #[.tmp 32, .tmp 33], argTypes := #[3, 3] }, 3, _, _, none⟩) rfl (fun K hK => ?_) AllReadyH.nil
  go_simp
  go_at_call 55
  refine (show Calls Tryz.prog 55 #[.int .i64 y, .int .i64 m] _ fun e w' => e = .returned (.int .i64 (y % m)) ∧ (Has w0 ((b, [.slice (some ⟨bb, o, none⟩) n cap, .int .i64 (t + 1)]) :: bs) w' ∧ Oth b w w') from (mod_any y m _ hm (by omega)).mono (by rintro _ _ ⟨h1, rfl⟩; exact ⟨h1, C2, O2⟩)).mono ?_
  rintro e w3 ⟨rfl, C3⟩
  go_wp2_with fail
  clear hHeld
  refine hK.out _ _ (HS.out _ C3.1) (fun hHeld => ?_)
  clear hK K
  try simp only [pA, pB, pC]
  refine tlA #[true, true, true, true, true, true, true, true, true, true, true, true, true, false] ?_
  refine tbA [13] ?_
  refine tkA (.int .i64 (y % m)) (oi := ⟨some 4, .assign (.tmp 34), 3, _, _, none⟩) ?_
  simp only [Act.put, pA, pB, pC]
  refine teA ?_
  refine tlA #[true, true, true, true, true, true, true, true, true, true, true, true, true, true] ?_
  refine wpAnyH_done (by kernel_rfl) ?_ _
  clear hHeld
  go_wp2_with fail
  exact bodyPost_ret (v := .int .i64 (y % m)) (by simp [results, Tryz.results31, go_sem]) rfl ⟨y % m, t + 1, rfl, Int.emod_nonneg _ (by omega), Int.emod_lt_of_pos _ (by omega), by omega, C3.1, C3.2⟩
 ·have b1 : decide (t ≥ (xs.length : Int)) = true := decide_eq_true (by omega)
  clear h3
  generalize hn : xs.length = n at *
  clear hn
  go_enter Tryz.func31, Tryz.ntmps31
  go_wp2_with fail
  go_region
  go_wp2_with fail
  exact bodyPost_ret (v := .int .i64 0) (by simp [results, Tryz.results31, go_sem]) rfl ⟨0, t, rfl, by omega, by omega, ht, C1, Oth.of ((Below.refl _ w).drew)⟩

end Go.Proofs.YtoaldbjcpfkcjaaGreat

namespace Go.Proofs.YtoaldbjcpfkcjaaGreat
open Go.RowKit Go.Lib

/-- Every point lies in the little square. -/
def Cs (ps : List (Int × Int)) : Prop := ∀ q, q ∈ ps → (0 ≤ q.1 ∧ q.1 ≤ 12) ∧ (0 ≤ q.2 ∧ q.2 ≤ 12)
theorem Cs.nil : Cs [] := fun _ h => by cases h
theorem Cs.snoc {ps : List (Int × Int)} {x y : Int} (h : Cs ps) (h1 : 0 ≤ x ∧ x ≤ 12) (h2 : 0 ≤ y ∧ y ≤ 12) : Cs (ps ++ [(x, y)]) := by
 intro q hq
 rcases List.mem_append.1 hq with hq | hq
 ·exact h q hq
 ·rw [List.mem_singleton.1 hq]; exact ⟨h1, h2⟩
theorem Cs.set {ps : List (Int × Int)} {p : Int × Int} (h : Cs ps) (i : Nat) (hp : p ∈ ps) : Cs (ps.set i p) := by
 intro q hq
 rcases List.mem_or_eq_of_mem_set hq with hq | rfl
 ·exact h q hq
 ·exact h _ hp

attribute [local go_sem] Oper.semAt_some
end Go.Proofs.YtoaldbjcpfkcjaaGreat

namespace Go.Proofs.YtoaldbjcpfkcjaaGreat
open Go.RowKit Go.Lib

theorem RowP.take {w : World} {a : Option Addr} {n c : Nat} {ps : List (Int × Int)} (h : RowP w (.slice a n c) ps) (m : Nat) (hm : m ≤ ps.length) : RowP w (.slice a m c) (ps.take m) := by
 obtain ⟨a', cap, e, h2, h3, h4⟩ := h
 simp only [Value.slice.injEq] at e
 obtain ⟨rfl, rfl, rfl⟩ := e
 have hl : (ps.take m).length = m := by rw [List.length_take]; omega
 refine ⟨a, c, by rw [hl], by omega, h3, ?_⟩
 rcases h4 with rfl | ⟨b, o, e, h⟩
 ·exact .inl (by simp)
 ·refine .inr ⟨b, o, e, fun i p hp => ?_⟩
  by_cases hi : i < m
  ·rw [List.getElem?_take_of_lt hi] at hp; exact h i p hp
  ·rw [List.getElem?_eq_none (by omega)] at hp; cases hp

end Go.Proofs.YtoaldbjcpfkcjaaGreat

namespace Go.Proofs.YtoaldbjcpfkcjaaGreat
open Go.RowKit Go.Lib

attribute [local go_sem] Oper.semAt_some
end Go.Proofs.YtoaldbjcpfkcjaaGreat

namespace Go.Proofs.YtoaldbjcpfkcjaaGreat
open Go.RowKit Go.Lib

end Go.Proofs.YtoaldbjcpfkcjaaGreat

namespace Go.Proofs.YtoaldbjcpfkcjaaGreat
open Go.RowKit Go.Lib

theorem Own.apart {c : Nat} {W W' : World} {v v2 : Value} {qs : List (Int × Int)} (h2 : Own c W v2 qs) (hne : ∀ k, v2.ownBlock = some k → v.ownBlock ≠ some k) (hg : W.grownBy W' v.ownBlock) : Own c W' v2 qs := by
 refine ⟨h2.1, ?_⟩
 rcases h2.2 with e | ⟨k, cap, cur, e1, e2, e3, e4⟩
 ·exact .inl e
 ·refine .inr ⟨k, cap, cur, e1, e2, ?_, e4⟩
  rw [hg.block k (Array.getElem?_eq_some_iff.1 e3).1 (fun e => hne k (by rw [e1]; rfl) e.symm)]
  exact e3
/-- What is owned lies in memory. -/
theorem Own.lt {b : Nat} {W : World} {v : Value} {ps : List (Int × Int)} (h : Own b W v ps) {k : Nat} (e : v.ownBlock = some k) : b ≤ k ∧ k < W.heap.size := World.ownsRow.lt h k e
/-- Two lists that share no block, also behind an append to the first one. -/
def Apart (u v : Value) : Prop := ∀ k, u.ownBlock = some k → v.ownBlock ≠ some k
theorem Apart.symm {u v : Value} (h : Apart u v) : Apart v u := fun k e e' => h k e' e
theorem Apart.grown {b : Nat} {W : World} {u u' v : Value} {qs : List (Int × Int)} (h : Apart u v) (hv : Own b W v qs) (e : u'.ownBlock = u.ownBlock ∨ u'.ownBlock = some W.heap.size) : Apart u' v := by
 intro k hk hk'
 rcases e with e | e
 ·rw [e] at hk; exact h k hk hk'
 ·rw [e] at hk; injection hk with hk; have := (hv.lt hk').2; omega
theorem Apart.keep {b : Nat} {W W' : World} {u v : Value} {qs : List (Int × Int)} (h : Apart u v) (hv : Own b W v qs) (hg : W.grownBy W' u.ownBlock) : Own b W' v qs := hv.apart (fun k e e' => h k e' e) hg

end Go.Proofs.YtoaldbjcpfkcjaaGreat

namespace Go.Proofs.YtoaldbjcpfkcjaaGreat
open Go.RowKit Go.Lib Geo

/-- Columns, from left to right, with the next one's place. -/
structure Cols (k : Nat) (x : Int) (lo hi : List (Int × Int)) : Prop where
 l1 : lo.length = k
 l2 : hi.length = k
 eq : ∀ i, i < k → (pt lo i).1 = (pt hi i).1
 lt : ∀ i, i < k → (pt lo i).2 < (pt hi i).2
 b1 : ∀ i, i < k → -4 ≤ (pt lo i).1 ∧ (pt lo i).1 < x
 b2 : ∀ i, i < k → -4 ≤ (pt lo i).2 ∧ (pt hi i).2 ≤ 11
 inc : ∀ i, i + 1 < k → (pt lo i).1 < (pt lo (i + 1)).1
 bx : -4 ≤ x ∧ x ≤ 3 + 4 * k

theorem pt_snoc {l : List (Int × Int)} {p : Int × Int} {i : Nat} : pt (l ++ [p]) i = if i < l.length then pt l i else if i = l.length then p else (0, 0) := by
 unfold pt
 rw [List.getElem?_append]
 by_cases h : i < l.length
 ·rw [if_pos h, if_pos h]
 ·rw [if_neg h, if_neg h]
  by_cases h2 : i = l.length
  ·rw [if_pos h2, h2, Nat.sub_self]; rfl
  ·rw [if_neg h2, List.getElem?_eq_none (by simp; omega)]; rfl
theorem Cols.nil {x : Int} (h : -4 ≤ x ∧ x ≤ 3) : Cols 0 x [] [] :=
 ⟨rfl, rfl, fun _ h => by omega, fun _ h => by omega, fun _ h => by omega, fun _ h => by omega, fun _ h => by omega, by omega⟩
theorem Cols.next {k : Nat} {x y z x' : Int} {lo hi : List (Int × Int)} (h : Cols k x lo hi) (hy : -4 ≤ y) (hyz : y < z) (hz : z ≤ 11) (hx : x < x') (hx' : x' ≤ x + 4) : Cols (k + 1) x' (lo ++ [(x, y)]) (hi ++ [(x, z)]) := by
 have a : ∀ i, i < k + 1 → pt (lo ++ [(x, y)]) i = (if i < k then pt lo i else (x, y)) ∧ pt (hi ++ [(x, z)]) i = (if i < k then pt hi i else (x, z)) := by
  intro i hi'
  rw [pt_snoc, pt_snoc, h.l1, h.l2]
  by_cases c : i < k
  ·rw [if_pos c, if_pos c, if_pos c, if_pos c]; exact ⟨rfl, rfl⟩
  ·rw [if_neg c, if_neg c, if_neg c, if_neg c, if_pos (by omega), if_pos (by omega)]; exact ⟨rfl, rfl⟩
 have hb := h.bx
 refine ⟨by simp [h.l1], by simp [h.l2], ?_, ?_, ?_, ?_, ?_, ?_⟩
 ·intro i hi'; rw [(a i hi').1, (a i hi').2]; split
  ·exact h.eq i (by assumption)
  ·rfl
 ·intro i hi'; rw [(a i hi').1, (a i hi').2]; split
  ·exact h.lt i (by assumption)
  ·exact hyz
 ·intro i hi'; rw [(a i hi').1]; split
  ·have := h.b1 i (by assumption); omega
  ·simp only; omega
 ·intro i hi'; rw [(a i hi').1, (a i hi').2]; split
  ·exact h.b2 i (by assumption)
  ·simp only; omega
 ·intro i hi'; rw [(a i (by omega)).1, (a (i + 1) hi').1]
  rw [if_pos (show i < k by omega)]
  split
  ·exact h.inc i (by assumption)
  ·exact (h.b1 i (by omega)).2
 ·omega

end Go.Proofs.YtoaldbjcpfkcjaaGreat
