/- line.Length. The reference: Length. Lists: whether two are equal. Lists of points that the call made itself: to append to them. Lists in the opposite order. The reference: lists in the opposite order. line.simple: whether a list meets itself. line.Check. -/
import Derived.Maps.AppendAt
import Derived.Laws.OwnMore
import Derived.WideShapes
import Derived.Test.YtoaldbjcpfkcjaaGreatcB7
namespace Go.Proofs.YtoaldbjcpfkcjaaGreat
open Go.RowKit Go.Lib

end Go.Proofs.YtoaldbjcpfkcjaaGreat

namespace Go.Proofs.YtoaldbjcpfkcjaaGreat
open Go.RowKit Go.Lib

end Go.Proofs.YtoaldbjcpfkcjaaGreat

namespace Go.Proofs.YtoaldbjcpfkcjaaGreat
open Go.RowKit Go.Lib

end Go.Proofs.YtoaldbjcpfkcjaaGreat

namespace Go.Proofs.YtoaldbjcpfkcjaaGreat
open Go.RowKit Go.Lib

theorem info24 : (Tryz.prog.info? 37).map (fun i => (i.zero, i.size, i.bytes)) = some (some (.agg #[.int .i64 0, .int .i64 0]), 2, 16) := by kernel_rfl
theorem flat_length (ps : List (Int × Int)) : (flat ps).length = ps.length * 2 := by
 induction ps with
 | nil => rfl
 | cons p t ih => simp only [flat, List.length_cons, ih]; omega
theorem flat_append (ps qs : List (Int × Int)) : flat (ps ++ qs) = flat ps ++ flat qs := by
 induction ps with
 | nil => rfl
 | cons p t ih => simp only [flat, List.cons_append, ih]
theorem flat_one (ps : List (Int × Int)) : ∀ u ∈ flat ps, u.oneCell' = true := by
 induction ps with
 | nil => intro u h; cases h
 | cons p t ih =>
  intro u h
  simp only [flat, List.mem_cons] at h
  rcases h with rfl | rfl | h
  ·rfl
  ·rfl
  ·exact ih u h
/-- A list in memory that was made behind block b. -/
def Own (b : Nat) (w : World) (v : Value) (ps : List (Int × Int)) : Prop := w.ownsRow b 37 2 v ps.length (flat ps)
theorem Own.nil (b : Nat) (w : World) : Own b w (.slice none 0 0) [] := World.ownsRow_nil w b 37 2
theorem Own.later {b : Nat} {w w' : World} {v : Value} {ps : List (Int × Int)} (h : Own b w v ps) (g : Grows w w') : Own b w' v ps := by
 refine ⟨h.1, ?_⟩
 rcases h.2 with h2 | ⟨k, cap, cur, h1, h2, h3, h4⟩
 ·exact .inl h2
 ·exact .inr ⟨k, cap, cur, h1, h2, heap_grows g h3, h4⟩
theorem Own.row {b : Nat} {w : World} {v : Value} {ps : List (Int × Int)} (h : Own b w v ps) : RowP w v ps := by
 have hh := h
 rcases h.2 with ⟨rfl, h2⟩ | ⟨k, cap, cur, rfl, h2, h3, h4, h5, h6, h7⟩
 ·have : ps = [] := List.eq_nil_of_length_eq_zero h2
  subst this
  exact ⟨none, 0, rfl, by simp, by simp, .inl rfl⟩
 ·refine ⟨some ⟨k, 0, none⟩, cap, rfl, h4, by unfold maxLen at h5; omega, .inr ⟨k, 0, rfl, fun i p hp => ?_⟩⟩
  have hc := World.ownsRow.cells hh (g := k) rfl
  have c0 := hc _ _ (flat_at hp).1
  have c1 := hc _ _ (flat_at hp).2
  rw [Go.WideShapes.add_plain] at c0 c1
  rw [Nat.add_assoc]
  exact ⟨c0, c1⟩
theorem RowP.small {w : World} {a : Option Addr} {n c : Nat} {ps : List (Int × Int)} (h : RowP w (.slice a n c) ps) : n = ps.length := h.len.1

set_option maxRecDepth 100000 in
theorem run_append_own {w : World} {b : Nat} {v vx : Value} {ps qs : List (Int × Int)} (ty : TypeId) (h : Own b w v ps) (hx : RowP w vx qs) (hn : ps.length + qs.length ≤ 100000) (hb : b ≤ w.heap.size) :
  ∃ v' w', (Builtin.append_ #[42, 42] ty #[v, vx]).run Tryz.prog w = .ok v' w' ∧ Own b w' v' (ps ++ qs) ∧ w.grownBy w' v.ownBlock := by
 obtain ⟨i0, hi, hz0, hz1, hz2⟩ := info_parts info24
 obtain ⟨a, cap, rfl, h1, h2, h3⟩ := hx
 unfold Own
 rw [List.length_append, flat_append]
 rcases a with _ | ad
 ·have h0 : qs = [] := by
   rcases h3 with h3 | ⟨b, o, h3, _⟩
   ·exact h3
   ·cases h3
  subst h0
  refine ⟨v, w, ?_, by simpa [flat] using (show w.ownsRow b 37 2 v ps.length (flat ps) from h), World.grownBy.refl w _⟩
  have hu := run_underlying (P := Tryz.prog) Tryz.underlying42
  rcases h.2 with ⟨rfl, h2⟩ | ⟨g, cap, cur, rfl, -, -, hle, -⟩
  ·simp [Builtin.append_, hu, sizeOf, typeInfo, hi, Builtin.lenOf, Builtin.firstCells]
  ·simp [Builtin.append_, hu, sizeOf, typeInfo, hi, Builtin.lenOf, Builtin.firstCells, hle, storeCells]
 ·have hcells : ∀ j u, (flat qs)[j]? = some u → w.cell? (ad.add j) = some u := by
   intro j u hu
   rcases h3 with h3 | ⟨b, o, h3, h4⟩
   ·rw [h3] at hu; simp [flat] at hu
   ·obtain rfl := Option.some.inj h3
    have ee := Go.WideShapes.add_plain b o j
    rw [ee]
    have hj : j < qs.length * 2 := by rw [← flat_length]; exact (List.getElem?_eq_some_iff.1 hu).1
    have hp := at_pt (ps := qs) (k := j / 2) (by omega)
    obtain ⟨e0, e1⟩ := flat_at hp
    obtain ⟨c0, c1⟩ := h4 _ _ hp
    rcases Nat.mod_two_eq_zero_or_one j with hm | hm
    ·rw [show j / 2 * 2 = j by omega] at e0 c0
     rw [e0] at hu
     rw [← hu]
     exact c0
    ·rw [show j / 2 * 2 + 1 = j by omega] at e1
     rw [show o + j / 2 * 2 + 1 = o + j by omega] at c1
     rw [e1] at hu
     rw [← hu]
     exact c1
  obtain ⟨v', w', e1, e2, e3, -, -⟩ := run_append_own_at (P := Tryz.prog) w b 42 ty 37 i0 (.agg #[.int .i64 0, .int .i64 0]) 2 16 Tryz.underlying42 hi hz0 hz1 hz2 rfl (by decide) v ps.length (flat ps) h ad qs.length cap (flat qs) (by rw [flat_length]) hcells (flat_one qs)
   (by unfold maxLen; omega) (by omega) hb
  exact ⟨v', w', e1, e2, e3⟩
/-- What else was made stays as it is. -/
theorem Has.grown {w W W' : World} {bs : List (Nat × List Value)} {b : Nat} {v : Value} {ps : List (Int × Int)} (h : Has w bs W) (ho : Own b W v ps) (hb : ∀ p ∈ bs, p.1 < b) (hw : w.heap.size ≤ b) (hg : W.grownBy W' v.ownBlock) : Has w bs W' := by
 have hk : ∀ k, v.ownBlock = some k → b ≤ k := fun k e => (World.ownsRow.lt ho k e).1
 have hB : ∀ k, k < b → k < W.heap.size → W'.heap[k]? = W.heap[k]? := fun k h1 h2 => hg.block k h2 (fun e => by have := hk k e.symm; omega)
 refine ⟨fun p hp i u hu => ?_, fun p hp => Nat.lt_of_lt_of_le (h.lt p hp) hg.size, h.ge, h.nd, h.low.grown hg h.low.size (fun k e => by have := hk k e; omega)⟩
 obtain ⟨c1, c2⟩ := h.c p hp i u hu
 have hblock := hB p.1 (hb p hp) (h.lt p hp)
 constructor
 ·rw [← c1]; unfold World.cell?; simp only [hblock]
 ·rw [← c2]; unfold World.frozen?; simp only [hblock]
/-- At an operation of a plain region. -/
theorem wpList_append_pts {ops : Array Oper} {rest : List Oper} {o : Oper} {a : Act} {w : World} {Q : Exit → Act → World → Prop} (hgd : o.guard = none) (s x : Operand)
  (ho : o.op = .call { callee := .builtin .append, args := #[s, x], argTypes := #[42, 42] }) {b : Nat} {v vx : Value} {ps qs : List (Int × Int)} (hs : a.eval s = v) (h : Own b w v ps)
  (hx : a.eval x = vx) (hr : RowP w vx qs) (hn : ps.length + qs.length ≤ 100000) (hb : b ≤ w.heap.size)
  (hK : ∀ v' w', Own b w' v' (ps ++ qs) → w.grownBy w' v.ownBlock → wpList Tryz.prog ops Q rest (a.put o.dst v') w') : wpList Tryz.prog ops Q (o :: rest) a w := by
 refine wpList_plain hgd fun K hK' => ?_
 obtain ⟨v', w', e1, e2, e3⟩ := run_append_own o.type h hr hn hb
 unfold Oper.wp execOp
 simp only [ho, resolve, invoke, builtin, Sem.run_bind, Sem.run_pure, Result.andThen_ok, List.map_toArray, List.map_cons, List.map_nil, hs, hx, e1]
 exact hK' _ _ (hK v' w' e2 e3)

end Go.Proofs.YtoaldbjcpfkcjaaGreat

namespace Go.Proofs.YtoaldbjcpfkcjaaGreat
open Go.RowKit Go.Lib

/-- How a list stands when its first and last i points were exchanged. -/
def RevI (ps L : List (Int × Int)) (i : Nat) : Prop := L.length = ps.length ∧ ∀ k, k < ps.length → L[k]? = if k < i ∨ ps.length - i ≤ k then ps[ps.length - 1 - k]? else ps[k]?
theorem RevI.start (ps : List (Int × Int)) : RevI ps ps 0 := ⟨rfl, fun k hk => by rw [if_neg (by omega)]⟩
theorem RevI.next {ps L : List (Int × Int)} {i : Nat} {p q : Int × Int} (h : RevI ps L i) (hi : i + i + 1 < ps.length) (hp : L[i]? = some p) (hq : L[ps.length - 1 - i]? = some q) : RevI ps ((L.set i q).set (ps.length - 1 - i) p) (i + 1) := by
 obtain ⟨hl, hk⟩ := h
 refine ⟨by simp [hl], fun k hkn => ?_⟩
 have h1 := hk i (by omega)
 have h2 := hk (ps.length - 1 - i) (by omega)
 rw [if_neg (by omega), hp] at h1
 rw [if_neg (by omega), hq] at h2
 by_cases e2 : k = ps.length - 1 - i
 ·subst e2
  rw [List.getElem?_set_self (by simp; omega), if_pos (by omega), h1]
  congr 1
  omega
 ·rw [List.getElem?_set_ne (by omega)]
  by_cases e1 : k = i
  ·subst e1
   rw [List.getElem?_set_self (by omega), if_pos (by omega), h2]
  ·rw [List.getElem?_set_ne (by omega), hk k hkn]
   by_cases c : k < i ∨ ps.length - i ≤ k
   ·rw [if_pos c, if_pos (by omega)]
   ·rw [if_neg c, if_neg (by omega)]
theorem RevI.last {ps L : List (Int × Int)} {i : Nat} (h : RevI ps L i) (hi : ps.length ≤ i + i + 1) : L = ps.reverse := by
 obtain ⟨hl, hk⟩ := h
 apply List.ext_getElem?
 intro k
 by_cases hkn : k < ps.length
 ·rw [hk k hkn, List.getElem?_reverse hkn]
  by_cases c : k < i ∨ ps.length - i ≤ k
  ·rw [if_pos c]
  ·rw [if_neg c]
   congr 1
   omega
 ·rw [List.getElem?_eq_none (by omega), List.getElem?_eq_none (by simp; omega)]
theorem flat_set (L : List (Int × Int)) (i : Nat) (x y : Int) : ((flat L).set (i * 2) (.int .i64 x)).set (i * 2 + 1) (.int .i64 y) = flat (L.set i (x, y)) := by
 induction L generalizing i with
 | nil => simp [flat]
 | cons p t ih =>
  cases i with
  | zero => simp [flat]
  | succ i =>
   have := ih i
   rw [show (i + 1) * 2 = i * 2 + 1 + 1 by omega]
   simp only [flat, List.set_cons_succ, this]
theorem Own.set {b g c n : Nat} {w : World} {L : List (Int × Int)} (h : Own b w (.slice (some ⟨g, 0, none⟩) n c) L) (i : Nat) (x y : Int) :
  Own b ((w.setCell ⟨g, i * 2, none⟩ (.int .i64 x)).setCell ⟨g, i * 2 + 1, none⟩ (.int .i64 y)) (.slice (some ⟨g, 0, none⟩) n c) (L.set i (x, y)) := by
 unfold Own at *
 rw [List.length_set, ← flat_set]
 have e : n = L.length := by
  rcases h.2 with ⟨h2, _⟩ | ⟨k, cap, cur, h2, -⟩
  ·cases h2
  ·injection h2
 subst e
 exact (World.ownsRow.stored (World.ownsRow.stored h _ _).1 _ _).1
theorem Own.form {b : Nat} {w : World} {v : Value} {L : List (Int × Int)} (h : Own b w v L) (hl : 0 < L.length) : ∃ g c, v = .slice (some ⟨g, 0, none⟩) L.length c ∧ b ≤ g ∧ g < w.heap.size := by
 rcases h.2 with ⟨_, h2⟩ | ⟨k, cap, cur, rfl, h2, h3, -⟩
 ·omega
 ·exact ⟨k, cap, rfl, h2, (Array.getElem?_eq_some_iff.1 h3).1⟩
theorem Own.frozen {b g c n : Nat} {w : World} {L : List (Int × Int)} (h : Own b w (.slice (some ⟨g, 0, none⟩) n c) L) (j : Nat) : w.frozen? ⟨g, j, none⟩ = false := by
 rcases h.2 with ⟨h', _⟩ | ⟨g', cap', cur, h', _, hg, _⟩
 ·cases h'
 ·injection h' with e1 e2 e3
  injection e1 with e1
  injection e1 with e1
  subst e1
  exact frozen_of_row w g j cur 37 hg
end Go.Proofs.YtoaldbjcpfkcjaaGreat

namespace Go.Proofs.YtoaldbjcpfkcjaaGreat
open Go.RowKit Go.Lib

theorem grow_append {w W W' : World} {b : Nat} {v : Value} {ps : List (Int × Int)} (h : Grows w W) (ho : Own b W v ps) (hb : w.heap.size ≤ b) (hg : W.grownBy W' v.ownBlock) : Grows w W' :=
 Below.grown h hg h.size (fun k e => Nat.le_trans hb (World.ownsRow.lt ho k e).1)
end Go.Proofs.YtoaldbjcpfkcjaaGreat

namespace Go.Proofs.YtoaldbjcpfkcjaaGreat
open Go.RowKit Go.Lib

theorem Mid {α : Type} (x b c d e f : α) : List.Perm [x, b, c, d, e, f] [b, c, d, x, e, f] :=
 ((List.Perm.swap _ _ _).trans (.cons _ ((List.Perm.swap _ _ _).trans (.cons _ (.swap _ _ _)))))
theorem Mid6 {α : Type} (x b c d e f : α) : List.Perm [b, c, d, e, f, x] [x, b, c, d, e, f] :=
 (((List.Perm.cons _ ((List.Perm.cons _ ((List.Perm.cons _ ((List.Perm.cons _ (.swap _ _ _)).trans (.swap _ _ _))).trans (.swap _ _ _))).trans (.swap _ _ _))).trans (.swap _ _ _)))
theorem keeps_mono {B B' : Nat} {X Y : World} (h : KeepsFrom B X Y) (hB : B ≤ B') : KeepsFrom B' X Y := ⟨h.size, fun k o hk => h.same k o (Nat.le_trans hB hk)⟩
theorem HK.putObj {w A W : World} {B i : Nat} {bs : List (Nat × List Value)} {ob ob' : Obj} (h : HK w B A bs W) (hi : w.heap.size ≤ i) (hA : A.heap.size ≤ i) (ho : W.heap[i]? = some ob) (hc : ob.isCells = false) : HK w B A bs (W.putObj i ob') :=
 ⟨h.h.putObj hi ho hc, ⟨by rw [World.putObj_size]; exact h.k.size, fun k o hk h1 h2 => (World.putObj_heap_other (by have := (Array.getElem?_eq_some_iff.1 h1).1; omega)).trans (h.k.same k o hk h1 h2)⟩⟩
/-- How often the segments i and j of a list meet, as line.meet says it; whether that is not what is wanted. -/
def lmK (ps : List (Int × Int)) (i j : Nat) : Int := lmeet (pt ps i).1 (pt ps i).2 (pt ps (i + 1)).1 (pt ps (i + 1)).2 (pt ps j).1 (pt ps j).2 (pt ps (j + 1)).1 (pt ps (j + 1)).2
def badM (ps : List (Int × Int)) (j i : Nat) : Bool := decide (lmK ps i j ≠ wantP ps i j)
def badS (ps : List (Int × Int)) (j : Nat) : Bool := decide (pt ps j = pt ps (j + 1)) || anyTo (badM ps j) j
def simpleP (ps : List (Int × Int)) : Bool := !anyTo (badS ps) (ps.length - 1)
theorem joints_is (v : Value) (ps : List (Int × Int)) (i j : Nat) (w : World) (hv : RowP w v ps) (hi : i < ps.length) (hj : j < ps.length) (h2 : 2 ≤ ps.length) (s : Int) (h : wantP ps i j = s) :
  Calls Tryz.prog 120 #[v, .int .i64 i, .int .i64 j] w fun e w' => e = .returned (.int .i64 s) ∧ Below w.heap.size w w' := h ▸ joints_any v ps i j w hv hi hj h2

theorem segs_hk {w w1 A : World} {K : Nat} {bs : List (Nat × List Value)} {v : Value} {ps : List (Int × Int)} (h : HK w K A bs w1) (hv : RowP w1 v ps) :
  Calls Tryz.prog 90 #[v] w1 fun e w' => ∃ B, e = .returned (.func (.func 123) #[] #[.pointer (some ⟨B, 0, none⟩)]) ∧ HK w K A ((B, [v]) :: bs) w' := by
 obtain ⟨a, cap, rfl, -⟩ := hv
 refine (segments_any _ _ _ _).mono ?_
 rintro e w' ⟨rfl, rfl⟩
 exact ⟨_, rfl, h.push [_] 42⟩
attribute [local go_sem] Oper.semAt_some
set_option linter.unusedSimpArgs false in
set_option maxRecDepth 100000 in
set_option maxHeartbeats 16000000 in
theorem simple_any (v : Value) (ps : List (Int × Int)) (w : World) (hv : RowP w v ps) (hlen : (ps.length : Int) ≤ 1000000) :
  Calls Tryz.prog 87 #[v] w fun e w' => e = .returned (.bool (simpleP ps)) ∧ Below w.heap.size w w' := by
 have hv0 := hv
 obtain ⟨a, cap, rfl, hc1, hc2, -⟩ := hv0
 have HV := Lib.hid hv
 clear hv
 have C0 := has2 (w := w) [.slice a ps.length cap] [.bool false] 42 4
 obtain ⟨r, hr⟩ : ∃ r, anyTo (badS ps) (ps.length - 1) = r := ⟨_, rfl⟩
 have HR := Lib.hid (show simpleP ps = !r by unfold simpleP; rw [hr])
 have HF := Lib.hid hr
 clear hr
 refine (callsIn_wide (n := 7)).1 ?_
 refine callsIn_of_wp_marks Tryz.func87 rfl trivial ?_ rfl
 simp only [Tryz.ntmps87, List.size_toArray, List.length_cons, List.length_nil, Nat.reduceAdd, Nat.reduceSub, Array.replicate_succ, Array.replicate_zero, List.push_toArray, List.append_toArray, List.nil_append, List.cons_append]
 gi_wp2_with fail
 change Has w _ ((w.alloc (.cells #[.slice a ps.length cap] 42)).alloc (.cells #[.bool false] 4)) at C0
 generalize (w.alloc (.cells #[.slice a ps.length cap] 42)).alloc (.cells #[.bool false] 4) = w1 at *
 have k0 := C0.fact (.head _) (i := 0) rfl
 refine wpIn_wide.2 (wp_scope_straight ((wpIn_wide (n := 7)).1 ?_))
 gi_wp2_with fail
 refine wpIn_label ?_
 gi_wp2_with fail
 refine ⟨trivial, (callsIn_wide.2 (segs_has C0 (HV.out.later C0.low))).mono ?_⟩
 rintro e w4 ⟨B, rfl, C4⟩
 clear k0 C0
 gi_wp2_with fail
 have hB : B < w4.heap.size := C4.lt0
 have hM : w.heap.size + 1 < w4.heap.size := C4.tail.tail.lt0
 refine range_sq (K := ps.length - 1) (enc := fun k => #[.int .i64 k, .agg #[.int .i64 (pt ps k).1, .int .i64 (pt ps k).2, .int .i64 (pt ps (k + 1)).1, .int .i64 (pt ps (k + 1)).2]]) (Lv := fun W => W.cell? ⟨B, 0, none⟩ = some (.slice a ps.length cap) ∧ RowP W (.slice a ps.length cap) ps) (w0 := w) rfl (enters_of Tryz.func123 (by kernel_rfl) rfl) (seg_seq _ ps (.slice a ps.length cap) B w) C4.low (fun _ => rfl)
  (fun k W => Has w [(B, [.slice a ps.length cap]), (w.heap.size, [.slice a ps.length cap]), (w.heap.size + 1, [.bool false])] W ∧ Hid (anyTo (badS ps) k = false))
  (fun c k W => c = .ret ∧ Has w [(w.heap.size + 1, [.bool false]), (B, [.slice a ps.length cap]), (w.heap.size, [.slice a ps.length cap])] W ∧ Hid (badS ps k = true))
  (fun k a' W => ∃ gj gt, a' = { tmps := #[.slice a ps.length cap, .pointer (some ⟨w.heap.size, 0, none⟩), .pointer (some ⟨w.heap.size + 1, 0, none⟩), .pointer (some ⟨gj, 0, none⟩), .pointer (some ⟨gt, 0, none⟩), undef, undef, .slice a ps.length cap, .func (.func 123) #[] #[.pointer (some ⟨B, 0, none⟩)], .int .i64 k, .agg #[.int .i64 (pt ps k).1, .int .i64 (pt ps k).2, .int .i64 (pt ps (k + 1)).1, .int .i64 (pt ps (k + 1)).2], undef, undef, undef, undef, undef, undef, undef, undef, undef, undef, undef, undef, undef, undef, undef, undef, undef, undef, undef, undef], defers := [] } ∧ Has w [(gt, [.int .i64 (pt ps k).1, .int .i64 (pt ps k).2, .int .i64 (pt ps (k + 1)).1, .int .i64 (pt ps (k + 1)).2]), (gj, [.int .i64 k]), (B, [.slice a ps.length cap]), (w.heap.size, [.slice a ps.length cap]), (w.heap.size + 1, [.bool false])] W ∧ Hid (anyTo (badS ps) k = false))
  (fun k A W h g => ⟨h.1.later g, h.2⟩) (fun c k A W h g => ⟨h.1, h.2.1.later g, h.2.2⟩) (fun k A h => ⟨h.1.fact (.head _) (i := 0) rfl, HV.out.later h.1.low⟩)
  (fun k A l o o' h hl ho hc => ⟨h.1.putObj (by omega) ho hc, h.2⟩) (fun c k A l o o' h hl ho hc => ⟨h.1, h.2.1.putObj (by omega) ho hc, h.2.2⟩)
  (fun k a' A l o o' h hl ho hc => by obtain ⟨gj, gt, e, hh, hx⟩ := h; exact ⟨gj, gt, e, hh.putObj (by omega) ho hc, hx⟩) ⟨C4, Lib.hid rfl⟩ ?assign ?body ?done ?stop
 case assign =>
  rintro l k A T hk ⟨hI, hX⟩ hT
  generalize (pt ps k).1 = x0 at *
  generalize (pt ps k).2 = x1 at *
  generalize (pt ps (k + 1)).1 = x2 at *
  generalize (pt ps (k + 1)).2 = x3 at *
  gi_wp2_with fail
  have E := ((HK.start (B := w4.heap.size) hI).push [.int .i64 k] 3).push [.int .i64 x0, .int .i64 x1, .int .i64 x2, .int .i64 x3] 120
  have Eh := E.h
  rw [size_alloc] at Eh
  exact hT _ _ E.k ⟨_, _, rfl, Eh, hX⟩
 case done =>
  rintro D A hD ⟨hI, hX⟩ hK
  have hr : r = false := HF.out.symm.trans hX.out
  subst hr
  have k0 := hI.tail.tail.fact (.head _) (i := 0) rfl
  have f0 := hI.tail.tail.free (.head _) (i := 0) rfl
  gi_wp2_with fail
  have X2 := (hI.third.set 0 (by simp) (.bool true))
  have hK2 := (keeps_set (B := 0) A ⟨w.heap.size + 1, 0, none⟩ (.bool true)).same D _ (Nat.zero_le _) hK rfl
  generalize A.setCell ⟨w.heap.size + 1, 0, none⟩ (.bool true) = A2 at *
  refine ⟨by simp, .inl ⟨_, _, rfl, run_takeDeferred hK2, ?_⟩⟩
  have X3 := X2.putObj (ob' := .deferred none) (by omega) hK2 rfl
  have d0 : (A2.putObj D (.deferred none)).cell? ⟨w.heap.size + 1, 0, none⟩ = some (.bool true) := X3.fact (.head _) (i := 0) rfl
  exact ⟨.bool true, by simp [results, Tryz.results87, go_sem, d0], by rw [HR.out]; rfl, X3.low⟩
 case stop =>
  rintro D c k A hD hk ⟨rfl, hI, hX⟩ hK
  have hr : true = r := (anyTo_yes hX.out hk).trans HF.out
  subst hr
  gi_wp2_with fail
  refine ⟨by simp, .inl ⟨_, _, rfl, run_takeDeferred hK, ?_⟩⟩
  have X3 := hI.putObj (ob' := .deferred none) (by omega) hK rfl
  have d0 : (A.putObj D (.deferred none)).cell? ⟨w.heap.size + 1, 0, none⟩ = some (.bool false) := X3.fact (.head _) (i := 0) rfl
  exact ⟨.bool false, by simp [results, Tryz.results87, go_sem, d0], by rw [HR.out]; rfl, X3.low⟩
 case body =>
  rintro l k a' A hl ⟨r0, hr0⟩ ⟨gj, gt, rfl, hI, hX⟩ hk
  obtain ⟨q, hq⟩ : ∃ q, decide (pt ps k = pt ps (k + 1)) = q := ⟨_, rfl⟩
  have he := eq3 (pt ps k).1 (pt ps k).2 (pt ps (k + 1)).1 (pt ps (k + 1)).2
  rw [show decide (((pt ps k).1, (pt ps k).2) = ((pt ps (k + 1)).1, (pt ps (k + 1)).2)) = decide (pt ps k = pt ps (k + 1)) from rfl, hq] at he
  have HQ := Lib.hid hq
  clear hq
  generalize hy0 : (pt ps k).1 = y0 at *
  generalize hy1 : (pt ps k).2 = y1 at *
  generalize hy2 : (pt ps (k + 1)).1 = y2 at *
  generalize hy3 : (pt ps (k + 1)).2 = y3 at *
  have HY0 := Lib.hid hy0
  have HY1 := Lib.hid hy1
  have HY2 := Lib.hid hy2
  have HY3 := Lib.hid hy3
  clear hy0 hy1 hy2 hy3
  obtain ⟨k0, k1, k2, k3⟩ := hI.one4
  rcases he with ⟨e1, e2, e3⟩ | ⟨e1, e2, e3⟩ | ⟨e1, e3⟩
  ·subst e3
   have f0 := hI.tail.tail.tail.tail.free (.head _) (i := 0) rfl
   have k4 := hI.tail.tail.tail.tail.fact (.head _) (i := 0) rfl
   gi_wp2_with fail
   have E := (HK.perm (HK.start (B := w4.heap.size) hI).tail.tail ((List.Perm.cons _ (.swap _ _ _)).trans (.swap _ _ _))).set 0 (by simp) (.bool false)
   exact ⟨E.k, rfl, E.h, Lib.hid (by unfold badS; rw [HQ.out]; rfl)⟩
  ·subst e3
   have k5 := hI.tail.tail.tail.fact (.head _) (i := 0) rfl
   gi_wp2_with fail
   refine ⟨trivial, (round_call (segs_hk (HK.start (B := 0) hI) (HV.out.later hI.low))).mono ?_⟩
   rintro e A1 ⟨B2, rfl, E⟩
   clear k0 k1 k2 k3 k5 e1 e2
   gi_wp2_with fail
   have hA1 : A.heap.size ≤ A1.heap.size := E.k.size
   have hwA : w.heap.size ≤ A1.heap.size := E.h.low.size
   refine range_sqN (l₀ := l) (r₀ := r0) (K := ps.length - 1) (enc := fun i => #[.int .i64 i, .agg #[.int .i64 (pt ps i).1, .int .i64 (pt ps i).2, .int .i64 (pt ps (i + 1)).1, .int .i64 (pt ps (i + 1)).2]]) (Lv := fun W => W.cell? ⟨B2, 0, none⟩ = some (.slice a ps.length cap) ∧ RowP W (.slice a ps.length cap) ps) (w0 := w) (E.k.same l _ (Nat.zero_le _) hr0 rfl) rfl (enters_of Tryz.func123 (by kernel_rfl) rfl) (seg_seq _ ps (.slice a ps.length cap) B2 w) E.h.low (fun _ => rfl)
    (fun i W => i ≤ k ∧ HK w 0 A [(B2, [.slice a ps.length cap]), (gt, [.int .i64 y0, .int .i64 y1, .int .i64 y2, .int .i64 y3]), (gj, [.int .i64 k]), (B, [.slice a ps.length cap]), (w.heap.size, [.slice a ps.length cap]), (w.heap.size + 1, [.bool false])] W ∧ Hid (anyTo (badM ps k) i = false))
    (fun c i W => (c = .exit 1 ∧ HK w 0 A [(B2, [.slice a ps.length cap]), (gt, [.int .i64 y0, .int .i64 y1, .int .i64 y2, .int .i64 y3]), (gj, [.int .i64 k]), (B, [.slice a ps.length cap]), (w.heap.size, [.slice a ps.length cap]), (w.heap.size + 1, [.bool false])] W ∧ Hid (anyTo (badM ps k) k = false)) ∨ (c = .ret ∧ i < k ∧ HK w 0 A [(w.heap.size + 1, [.bool false]), (B2, [.slice a ps.length cap]), (gt, [.int .i64 y0, .int .i64 y1, .int .i64 y2, .int .i64 y3]), (gj, [.int .i64 k]), (B, [.slice a ps.length cap]), (w.heap.size, [.slice a ps.length cap])] W ∧ Hid (badM ps k i = true)))
    (fun i a' W => i ≤ k ∧ ∃ gs, a' = { tmps := #[.slice a ps.length cap, .pointer (some ⟨w.heap.size, 0, none⟩), .pointer (some ⟨w.heap.size + 1, 0, none⟩), .pointer (some ⟨gj, 0, none⟩), .pointer (some ⟨gt, 0, none⟩), .int .i64 i, .pointer (some ⟨gs, 0, none⟩), .slice a ps.length cap, .func (.func 123) #[] #[.pointer (some ⟨B, 0, none⟩)], .int .i64 (k : Int), .agg #[.int .i64 y0, .int .i64 y1, .int .i64 y2, .int .i64 y3], .pointer (some ⟨gt, 0, none⟩), .agg #[.int .i64 y0, .int .i64 y1], .pointer (some ⟨gt, 2, none⟩), .agg #[.int .i64 y2, .int .i64 y3], .bool false, .slice a ps.length cap, .func (.func 123) #[] #[.pointer (some ⟨B2, 0, none⟩)], .int .i64 i, .agg #[.int .i64 (pt ps i).1, .int .i64 (pt ps i).2, .int .i64 (pt ps (i + 1)).1, .int .i64 (pt ps (i + 1)).2], undef, undef, undef, undef, undef, undef, undef, undef, undef, undef, undef], defers := [] } ∧ HK w 0 A [(gs, [.int .i64 (pt ps i).1, .int .i64 (pt ps i).2, .int .i64 (pt ps (i + 1)).1, .int .i64 (pt ps (i + 1)).2]), (B2, [.slice a ps.length cap]), (gt, [.int .i64 y0, .int .i64 y1, .int .i64 y2, .int .i64 y3]), (gj, [.int .i64 k]), (B, [.slice a ps.length cap]), (w.heap.size, [.slice a ps.length cap]), (w.heap.size + 1, [.bool false])] W ∧ Hid (anyTo (badM ps k) i = false))
    (fun i A W h g => ⟨h.1, h.2.1.later g, h.2.2⟩)
    (fun c i A W h g => h.imp (fun h => ⟨h.1, h.2.1.later g, h.2.2⟩) (fun h => ⟨h.1, h.2.1, h.2.2.1.later g, h.2.2.2⟩))
    (fun i A h => ⟨h.2.1.h.fact (.head _) (i := 0) rfl, HV.out.later h.2.1.h.low⟩)
    (fun i A l o o' h hl ho hc => ⟨h.1, h.2.1.putObj (by omega) (by omega) ho hc, h.2.2⟩)
    (fun c i A l o o' h hl ho hc => h.imp (fun h => ⟨h.1, h.2.1.putObj (by omega) (by omega) ho hc, h.2.2⟩) (fun h => ⟨h.1, h.2.1, h.2.2.1.putObj (by omega) (by omega) ho hc, h.2.2.2⟩))
    (fun i a' A l o o' h hl ho hc => by obtain ⟨h1, gs, e, hh, hx⟩ := h; exact ⟨h1, gs, e, hh.putObj (by omega) (by omega) ho hc, hx⟩) ⟨Nat.zero_le _, E, Lib.hid rfl⟩ ?assign ?body ?done ?stop
   case assign =>
    rintro l i A2 T hi ⟨hik, hJ, hX2⟩ hT
    generalize (pt ps i).1 = x0 at *
    generalize (pt ps i).2 = x1 at *
    generalize (pt ps (i + 1)).1 = x2 at *
    generalize (pt ps (i + 1)).2 = x3 at *
    gi_wp2_with fail
    have E3 := hJ.push [.int .i64 x0, .int .i64 x1, .int .i64 x2, .int .i64 x3] 120
    exact hT _ _ (keeps_grows ((Below.refl _ A2).alloc (Nat.le_refl _) _)) ⟨hik, _, rfl, E3, hX2⟩
   case done =>
    rintro A2 ⟨hik, -, -⟩
    omega
   case stop =>
    rintro c i A2 hi (⟨rfl, hJ, hX2⟩ | ⟨rfl, hik, hJ, hX2⟩)
    ·gi_wp2_with fail
     exact ⟨keeps_mono hJ.k (Nat.zero_le _), hJ.h.tail.tail.tail, Lib.hid (anyTo_no hX.out (by unfold badS; rw [HQ.out, hX2.out]; rfl))⟩
    ·gi_wp2_with fail
     exact ⟨keeps_mono hJ.k (Nat.zero_le _), rfl, (hJ.perm (Mid _ _ _ _ _ _)).h.tail.tail.tail, Lib.hid (by unfold badS; rw [HQ.out, ← anyTo_yes hX2.out hik]; rfl)⟩
   case body =>
    rintro l2 i a' A2 hl2 - ⟨hik, gs, rfl, hJ, hX2⟩ hi
    have hm : lmK ps i k = lmeet (pt ps i).1 (pt ps i).2 (pt ps (i + 1)).1 (pt ps (i + 1)).2 y0 y1 y2 y3 := by unfold lmK; rw [HY0.out, HY1.out, HY2.out, HY3.out]
    obtain ⟨X, hXX⟩ : ∃ X, lmK ps i k = X := ⟨_, rfl⟩
    obtain ⟨Wt, hWt⟩ : ∃ X, wantP ps i k = X := ⟨_, rfl⟩
    have hb : badM ps k i = decide (X ≠ Wt) := by unfold badM; rw [hXX, hWt]
    rw [hXX] at hm
    generalize (pt ps i).1 = x0 at *
    generalize (pt ps i).2 = x1 at *
    generalize (pt ps (i + 1)).1 = x2 at *
    generalize (pt ps (i + 1)).2 = x3 at *
    have HM := Lib.hid hm.symm
    have HW := Lib.hid hWt
    clear hm hWt hXX
    have k8 := hJ.h.tail.tail.tail.fact (.head _) (i := 0) rfl
    by_cases hlt : i < k
    ·have f1 : ((i : Int) == (k : Int)) = false := by rw [beq_eq_false_iff_ne]; omega
     have X0 := (HK.start (B := 0) hJ.h).drew
     gi_wp2_with fail
     clear k8
     by_cases hxw : X = Wt
     ·subst hxw
      have ms1 := Lib.hid (show ∀ w', Has w [(gs, [.int .i64 x0, .int .i64 x1, .int .i64 x2, .int .i64 x3]), (B2, [.slice a ps.length cap]), (gt, [.int .i64 y0, .int .i64 y1, .int .i64 y2, .int .i64 y3]), (gj, [.int .i64 k]), (B, [.slice a ps.length cap]), (w.heap.size, [.slice a ps.length cap]), (w.heap.size + 1, [.bool false])] w' → (w'.cell? ⟨gs, 0, none⟩ = some (.int .i64 x0) ∧ w'.cell? ⟨gs, 1, none⟩ = some (.int .i64 x1) ∧ w'.cell? ⟨gs, 2, none⟩ = some (.int .i64 x2) ∧ w'.cell? ⟨gs, 3, none⟩ = some (.int .i64 x3) ∧ w'.cell? ⟨B2, 0, none⟩ = some (.slice a ps.length cap) ∧ w'.cell? ⟨gt, 0, none⟩ = some (.int .i64 y0) ∧ w'.cell? ⟨gt, 1, none⟩ = some (.int .i64 y1) ∧ w'.cell? ⟨gt, 2, none⟩ = some (.int .i64 y2) ∧ w'.cell? ⟨gt, 3, none⟩ = some (.int .i64 y3) ∧ w'.cell? ⟨gj, 0, none⟩ = some (.int .i64 k) ∧ w'.cell? ⟨B, 0, none⟩ = some (.slice a ps.length cap) ∧ w'.cell? ⟨w.heap.size, 0, none⟩ = some (.slice a ps.length cap) ∧ w'.cell? ⟨w.heap.size + 1, 0, none⟩ = some (.bool false)) ∧ Has w [(gs, [.int .i64 x0, .int .i64 x1, .int .i64 x2, .int .i64 x3]), (B2, [.slice a ps.length cap]), (gt, [.int .i64 y0, .int .i64 y1, .int .i64 y2, .int .i64 y3]), (gj, [.int .i64 k]), (B, [.slice a ps.length cap]), (w.heap.size, [.slice a ps.length cap]), (w.heap.size + 1, [.bool false])] w' from fun w' h => by
       exact ⟨⟨h.fact (.head _) (i := 0) rfl, h.fact (.head _) (i := 1) rfl, h.fact (.head _) (i := 2) rfl, h.fact (.head _) (i := 3) rfl, h.tail.fact (.head _) (i := 0) rfl, h.tail.tail.fact (.head _) (i := 0) rfl, h.tail.tail.fact (.head _) (i := 1) rfl, h.tail.tail.fact (.head _) (i := 2) rfl, h.tail.tail.fact (.head _) (i := 3) rfl, h.tail.tail.tail.fact (.head _) (i := 0) rfl, h.tail.tail.tail.tail.fact (.head _) (i := 0) rfl, h.tail.tail.tail.tail.tail.fact (.head _) (i := 0) rfl, h.tail.tail.tail.tail.tail.tail.fact (.head _) (i := 0) rfl⟩, h⟩)
      refine region_calm (S := (fun w' => (w'.cell? ⟨gs, 0, none⟩ = some (.int .i64 x0) ∧ w'.cell? ⟨gs, 1, none⟩ = some (.int .i64 x1) ∧ w'.cell? ⟨gs, 2, none⟩ = some (.int .i64 x2) ∧ w'.cell? ⟨gs, 3, none⟩ = some (.int .i64 x3) ∧ w'.cell? ⟨B2, 0, none⟩ = some (.slice a ps.length cap) ∧ w'.cell? ⟨gt, 0, none⟩ = some (.int .i64 y0) ∧ w'.cell? ⟨gt, 1, none⟩ = some (.int .i64 y1) ∧ w'.cell? ⟨gt, 2, none⟩ = some (.int .i64 y2) ∧ w'.cell? ⟨gt, 3, none⟩ = some (.int .i64 y3) ∧ w'.cell? ⟨gj, 0, none⟩ = some (.int .i64 k) ∧ w'.cell? ⟨B, 0, none⟩ = some (.slice a ps.length cap) ∧ w'.cell? ⟨w.heap.size, 0, none⟩ = some (.slice a ps.length cap) ∧ w'.cell? ⟨w.heap.size + 1, 0, none⟩ = some (.bool false)) ∧ Has w [(gs, [.int .i64 x0, .int .i64 x1, .int .i64 x2, .int .i64 x3]), (B2, [.slice a ps.length cap]), (gt, [.int .i64 y0, .int .i64 y1, .int .i64 y2, .int .i64 y3]), (gj, [.int .i64 k]), (B, [.slice a ps.length cap]), (w.heap.size, [.slice a ps.length cap]), (w.heap.size + 1, [.bool false])] w')) (by kernel_rfl) (defers_none _ (by kernel_rfl)) (ms1.out _ X0.h) (fun hHeld => ?_)
      refine tbA [0, 1, 3, 4, 5] ?_
      refine tkA (.agg #[.int .i64 x0, .int .i64 x1, .int .i64 x2, .int .i64 x3]) (oi := ⟨some 23, .load 120 (.tmp 6), 120, _, _, none⟩) ?_
      simp only [Act.put, pA, pB, pC]
      refine tkA (.agg #[.int .i64 y0, .int .i64 y1, .int .i64 y2, .int .i64 y3]) (oi := ⟨some 24, .load 120 (.tmp 4), 120, _, _, none⟩) ?_
      simp only [Act.put, pA, pB, pC]
      refine tkA (.slice a ps.length cap) (oi := ⟨some 26, .load 42 (.tmp 1), 42, _, _, none⟩) ?_
      simp only [Act.put, pA, pB, pC]
      refine tkA (.int .i64 i) (oi := ⟨some 27, .move (.tmp 5), 3, _, _, none⟩) ?_
      simp only [Act.put, pA, pB, pC]
      refine tkA (.int .i64 k) (oi := ⟨some 28, .load 3 (.tmp 3), 3, _, _, none⟩) ?_
      simp only [Act.put, pA, pB, pC]
      refine teA ?_
      refine tlA #[true, true, false, true, true, true, false, false] ?_
      refine trA [2] ?_
      refine AllReadyH.cons (o := ⟨some 25, .call { callee := .value (.func 119), args := #[.tmp 23, .tmp 24], argTypes := #[120, 120] }, 3, _, _, none⟩) rfl (fun K hK => ?_) AllReadyH.nil
      go_simp
      go_at_call 119
      refine (HK.call X0 (lmeet_is _ _ _ _ _ _ _ _ _ HM.out _)).mono ?_
      rintro e A3 ⟨rfl, X1⟩
      go_wp2_with fail
      clear hHeld
      refine hK.out _ _ (ms1.out _ X1.h) (fun hHeld => ?_)
      clear hK K
      try simp only [pA, pB, pC]
      refine tlA #[true, true, true, true, true, true, false, false] ?_
      refine trA [6] ?_
      refine AllReadyH.cons (o := ⟨some 29, .call { callee := .value (.func 120), args := #[.tmp 26, .tmp 27, .tmp 28], argTypes := #[42, 3, 3] }, 3, _, _, none⟩) rfl (fun K hK => ?_) AllReadyH.nil
      go_simp
      go_at_call 120
      refine (HK.call X1 (joints_is _ ps i k _ (HV.out.later X1.h.low) (by omega) (by omega) (by omega) _ HW.out)).mono ?_
      rintro e A4 ⟨rfl, X2⟩
      go_wp2_with fail
      clear hHeld
      refine hK.out _ _ (ms1.out _ X2.h) (fun hHeld => ?_)
      clear hK K
      try simp only [pA, pB, pC]
      refine tlA #[true, true, true, true, true, true, true, false] ?_
      refine tbA [7] ?_
      refine tkA (.bool false) (oi := ⟨some 30, .binOp .neq 3 (.tmp 25) (.tmp 29) 3, 4, _, _, none⟩) ?_
      simp only [Act.put, pA, pB, pC]
      refine teA ?_
      refine tlA #[true, true, true, true, true, true, true, true] ?_
      refine wpAnyH_done (by kernel_rfl) ?_ _
      refine Calm.normal ?_
      clear hHeld
      gi_wp2_with fail
      exact ⟨keeps_mono X2.k (Nat.zero_le _), by omega, ⟨X2.h.tail, hJ.k.trans X2.k⟩, Lib.hid (anyTo_no hX2.out (by rw [hb]; simp))⟩
     ·have g1 : (X == Wt) = false := by rw [beq_eq_false_iff_ne]; exact hxw
      have g2 : (X != Wt) = true := by rw [bne_iff_ne]; exact hxw
      have ms1 := Lib.hid (show ∀ w', Has w [(gs, [.int .i64 x0, .int .i64 x1, .int .i64 x2, .int .i64 x3]), (B2, [.slice a ps.length cap]), (gt, [.int .i64 y0, .int .i64 y1, .int .i64 y2, .int .i64 y3]), (gj, [.int .i64 k]), (B, [.slice a ps.length cap]), (w.heap.size, [.slice a ps.length cap]), (w.heap.size + 1, [.bool false])] w' → (w'.cell? ⟨gs, 0, none⟩ = some (.int .i64 x0) ∧ w'.cell? ⟨gs, 1, none⟩ = some (.int .i64 x1) ∧ w'.cell? ⟨gs, 2, none⟩ = some (.int .i64 x2) ∧ w'.cell? ⟨gs, 3, none⟩ = some (.int .i64 x3) ∧ w'.cell? ⟨B2, 0, none⟩ = some (.slice a ps.length cap) ∧ w'.cell? ⟨gt, 0, none⟩ = some (.int .i64 y0) ∧ w'.cell? ⟨gt, 1, none⟩ = some (.int .i64 y1) ∧ w'.cell? ⟨gt, 2, none⟩ = some (.int .i64 y2) ∧ w'.cell? ⟨gt, 3, none⟩ = some (.int .i64 y3) ∧ w'.cell? ⟨gj, 0, none⟩ = some (.int .i64 k) ∧ w'.cell? ⟨B, 0, none⟩ = some (.slice a ps.length cap) ∧ w'.cell? ⟨w.heap.size, 0, none⟩ = some (.slice a ps.length cap) ∧ w'.cell? ⟨w.heap.size + 1, 0, none⟩ = some (.bool false)) ∧ Has w [(gs, [.int .i64 x0, .int .i64 x1, .int .i64 x2, .int .i64 x3]), (B2, [.slice a ps.length cap]), (gt, [.int .i64 y0, .int .i64 y1, .int .i64 y2, .int .i64 y3]), (gj, [.int .i64 k]), (B, [.slice a ps.length cap]), (w.heap.size, [.slice a ps.length cap]), (w.heap.size + 1, [.bool false])] w' from fun w' h => by
       exact ⟨⟨h.fact (.head _) (i := 0) rfl, h.fact (.head _) (i := 1) rfl, h.fact (.head _) (i := 2) rfl, h.fact (.head _) (i := 3) rfl, h.tail.fact (.head _) (i := 0) rfl, h.tail.tail.fact (.head _) (i := 0) rfl, h.tail.tail.fact (.head _) (i := 1) rfl, h.tail.tail.fact (.head _) (i := 2) rfl, h.tail.tail.fact (.head _) (i := 3) rfl, h.tail.tail.tail.fact (.head _) (i := 0) rfl, h.tail.tail.tail.tail.fact (.head _) (i := 0) rfl, h.tail.tail.tail.tail.tail.fact (.head _) (i := 0) rfl, h.tail.tail.tail.tail.tail.tail.fact (.head _) (i := 0) rfl⟩, h⟩)
      refine region_calm (S := (fun w' => (w'.cell? ⟨gs, 0, none⟩ = some (.int .i64 x0) ∧ w'.cell? ⟨gs, 1, none⟩ = some (.int .i64 x1) ∧ w'.cell? ⟨gs, 2, none⟩ = some (.int .i64 x2) ∧ w'.cell? ⟨gs, 3, none⟩ = some (.int .i64 x3) ∧ w'.cell? ⟨B2, 0, none⟩ = some (.slice a ps.length cap) ∧ w'.cell? ⟨gt, 0, none⟩ = some (.int .i64 y0) ∧ w'.cell? ⟨gt, 1, none⟩ = some (.int .i64 y1) ∧ w'.cell? ⟨gt, 2, none⟩ = some (.int .i64 y2) ∧ w'.cell? ⟨gt, 3, none⟩ = some (.int .i64 y3) ∧ w'.cell? ⟨gj, 0, none⟩ = some (.int .i64 k) ∧ w'.cell? ⟨B, 0, none⟩ = some (.slice a ps.length cap) ∧ w'.cell? ⟨w.heap.size, 0, none⟩ = some (.slice a ps.length cap) ∧ w'.cell? ⟨w.heap.size + 1, 0, none⟩ = some (.bool false)) ∧ Has w [(gs, [.int .i64 x0, .int .i64 x1, .int .i64 x2, .int .i64 x3]), (B2, [.slice a ps.length cap]), (gt, [.int .i64 y0, .int .i64 y1, .int .i64 y2, .int .i64 y3]), (gj, [.int .i64 k]), (B, [.slice a ps.length cap]), (w.heap.size, [.slice a ps.length cap]), (w.heap.size + 1, [.bool false])] w')) (by kernel_rfl) (defers_none _ (by kernel_rfl)) (ms1.out _ X0.h) (fun hHeld => ?_)
      refine tbA [0, 1, 3, 4, 5] ?_
      refine tkA (.agg #[.int .i64 x0, .int .i64 x1, .int .i64 x2, .int .i64 x3]) (oi := ⟨some 23, .load 120 (.tmp 6), 120, _, _, none⟩) ?_
      simp only [Act.put, pA, pB, pC]
      refine tkA (.agg #[.int .i64 y0, .int .i64 y1, .int .i64 y2, .int .i64 y3]) (oi := ⟨some 24, .load 120 (.tmp 4), 120, _, _, none⟩) ?_
      simp only [Act.put, pA, pB, pC]
      refine tkA (.slice a ps.length cap) (oi := ⟨some 26, .load 42 (.tmp 1), 42, _, _, none⟩) ?_
      simp only [Act.put, pA, pB, pC]
      refine tkA (.int .i64 i) (oi := ⟨some 27, .move (.tmp 5), 3, _, _, none⟩) ?_
      simp only [Act.put, pA, pB, pC]
      refine tkA (.int .i64 k) (oi := ⟨some 28, .load 3 (.tmp 3), 3, _, _, none⟩) ?_
      simp only [Act.put, pA, pB, pC]
      refine teA ?_
      refine tlA #[true, true, false, true, true, true, false, false] ?_
      refine trA [2] ?_
      refine AllReadyH.cons (o := ⟨some 25, .call { callee := .value (.func 119), args := #[.tmp 23, .tmp 24], argTypes := #[120, 120] }, 3, _, _, none⟩) rfl (fun K hK => ?_) AllReadyH.nil
      go_simp
      go_at_call 119
      refine (HK.call X0 (lmeet_is _ _ _ _ _ _ _ _ _ HM.out _)).mono ?_
      rintro e A3 ⟨rfl, X1⟩
      go_wp2_with fail
      clear hHeld
      refine hK.out _ _ (ms1.out _ X1.h) (fun hHeld => ?_)
      clear hK K
      try simp only [pA, pB, pC]
      refine tlA #[true, true, true, true, true, true, false, false] ?_
      refine trA [6] ?_
      refine AllReadyH.cons (o := ⟨some 29, .call { callee := .value (.func 120), args := #[.tmp 26, .tmp 27, .tmp 28], argTypes := #[42, 3, 3] }, 3, _, _, none⟩) rfl (fun K hK => ?_) AllReadyH.nil
      go_simp
      go_at_call 120
      refine (HK.call X1 (joints_is _ ps i k _ (HV.out.later X1.h.low) (by omega) (by omega) (by omega) _ HW.out)).mono ?_
      rintro e A4 ⟨rfl, X2⟩
      go_wp2_with fail
      clear hHeld
      refine hK.out _ _ (ms1.out _ X2.h) (fun hHeld => ?_)
      clear hK K
      try simp only [pA, pB, pC]
      refine tlA #[true, true, true, true, true, true, true, false] ?_
      refine tbA [7] ?_
      refine tkA (.bool true) (oi := ⟨some 30, .binOp .neq 3 (.tmp 25) (.tmp 29) 3, 4, _, _, none⟩) ?_
      simp only [Act.put, pA, pB, pC]
      refine teA ?_
      refine tlA #[true, true, true, true, true, true, true, true] ?_
      refine wpAnyH_done (by kernel_rfl) ?_ _
      refine Calm.normal ?_
      clear hHeld
      have k9 := X2.h.tail.tail.tail.tail.tail.tail.fact (.head _) (i := 0) rfl
      have f9 := X2.h.tail.tail.tail.tail.tail.tail.free (.head _) (i := 0) rfl
      gi_wp2_with fail
      have X3 := (HK.perm X2.tail (Mid6 _ _ _ _ _ _)).set 0 (by simp) (.bool false)
      exact ⟨keeps_mono X3.k (Nat.zero_le _), .inr ⟨rfl, ⟨X3.h, hJ.k.trans X3.k⟩, Lib.hid (by first | trivial | (rw [hb]; simp [hxw]))⟩⟩
    ·obtain rfl : i = k := by omega
     gi_wp2_with fail
     exact ⟨KeepsFrom.refl _ _, rfl, hJ.tail⟩
  ·subst e3
   have k5 := hI.tail.tail.tail.fact (.head _) (i := 0) rfl
   gi_wp2_with fail
   refine ⟨trivial, (round_call (segs_hk (HK.start (B := 0) hI) (HV.out.later hI.low))).mono ?_⟩
   rintro e A1 ⟨B2, rfl, E⟩
   clear k0 k1 k2 k3 k5 e1
   gi_wp2_with fail
   have hA1 : A.heap.size ≤ A1.heap.size := E.k.size
   have hwA : w.heap.size ≤ A1.heap.size := E.h.low.size
   refine range_sqN (l₀ := l) (r₀ := r0) (K := ps.length - 1) (enc := fun i => #[.int .i64 i, .agg #[.int .i64 (pt ps i).1, .int .i64 (pt ps i).2, .int .i64 (pt ps (i + 1)).1, .int .i64 (pt ps (i + 1)).2]]) (Lv := fun W => W.cell? ⟨B2, 0, none⟩ = some (.slice a ps.length cap) ∧ RowP W (.slice a ps.length cap) ps) (w0 := w) (E.k.same l _ (Nat.zero_le _) hr0 rfl) rfl (enters_of Tryz.func123 (by kernel_rfl) rfl) (seg_seq _ ps (.slice a ps.length cap) B2 w) E.h.low (fun _ => rfl)
    (fun i W => i ≤ k ∧ HK w 0 A [(B2, [.slice a ps.length cap]), (gt, [.int .i64 y0, .int .i64 y1, .int .i64 y2, .int .i64 y3]), (gj, [.int .i64 k]), (B, [.slice a ps.length cap]), (w.heap.size, [.slice a ps.length cap]), (w.heap.size + 1, [.bool false])] W ∧ Hid (anyTo (badM ps k) i = false))
    (fun c i W => (c = .exit 1 ∧ HK w 0 A [(B2, [.slice a ps.length cap]), (gt, [.int .i64 y0, .int .i64 y1, .int .i64 y2, .int .i64 y3]), (gj, [.int .i64 k]), (B, [.slice a ps.length cap]), (w.heap.size, [.slice a ps.length cap]), (w.heap.size + 1, [.bool false])] W ∧ Hid (anyTo (badM ps k) k = false)) ∨ (c = .ret ∧ i < k ∧ HK w 0 A [(w.heap.size + 1, [.bool false]), (B2, [.slice a ps.length cap]), (gt, [.int .i64 y0, .int .i64 y1, .int .i64 y2, .int .i64 y3]), (gj, [.int .i64 k]), (B, [.slice a ps.length cap]), (w.heap.size, [.slice a ps.length cap])] W ∧ Hid (badM ps k i = true)))
    (fun i a' W => i ≤ k ∧ ∃ gs, a' = { tmps := #[.slice a ps.length cap, .pointer (some ⟨w.heap.size, 0, none⟩), .pointer (some ⟨w.heap.size + 1, 0, none⟩), .pointer (some ⟨gj, 0, none⟩), .pointer (some ⟨gt, 0, none⟩), .int .i64 i, .pointer (some ⟨gs, 0, none⟩), .slice a ps.length cap, .func (.func 123) #[] #[.pointer (some ⟨B, 0, none⟩)], .int .i64 (k : Int), .agg #[.int .i64 y0, .int .i64 y1, .int .i64 y2, .int .i64 y3], .pointer (some ⟨gt, 0, none⟩), .agg #[.int .i64 y0, .int .i64 y1], .pointer (some ⟨gt, 2, none⟩), .agg #[.int .i64 y2, .int .i64 y3], .bool false, .slice a ps.length cap, .func (.func 123) #[] #[.pointer (some ⟨B2, 0, none⟩)], .int .i64 i, .agg #[.int .i64 (pt ps i).1, .int .i64 (pt ps i).2, .int .i64 (pt ps (i + 1)).1, .int .i64 (pt ps (i + 1)).2], undef, undef, undef, undef, undef, undef, undef, undef, undef, undef, undef], defers := [] } ∧ HK w 0 A [(gs, [.int .i64 (pt ps i).1, .int .i64 (pt ps i).2, .int .i64 (pt ps (i + 1)).1, .int .i64 (pt ps (i + 1)).2]), (B2, [.slice a ps.length cap]), (gt, [.int .i64 y0, .int .i64 y1, .int .i64 y2, .int .i64 y3]), (gj, [.int .i64 k]), (B, [.slice a ps.length cap]), (w.heap.size, [.slice a ps.length cap]), (w.heap.size + 1, [.bool false])] W ∧ Hid (anyTo (badM ps k) i = false))
    (fun i A W h g => ⟨h.1, h.2.1.later g, h.2.2⟩)
    (fun c i A W h g => h.imp (fun h => ⟨h.1, h.2.1.later g, h.2.2⟩) (fun h => ⟨h.1, h.2.1, h.2.2.1.later g, h.2.2.2⟩))
    (fun i A h => ⟨h.2.1.h.fact (.head _) (i := 0) rfl, HV.out.later h.2.1.h.low⟩)
    (fun i A l o o' h hl ho hc => ⟨h.1, h.2.1.putObj (by omega) (by omega) ho hc, h.2.2⟩)
    (fun c i A l o o' h hl ho hc => h.imp (fun h => ⟨h.1, h.2.1.putObj (by omega) (by omega) ho hc, h.2.2⟩) (fun h => ⟨h.1, h.2.1, h.2.2.1.putObj (by omega) (by omega) ho hc, h.2.2.2⟩))
    (fun i a' A l o o' h hl ho hc => by obtain ⟨h1, gs, e, hh, hx⟩ := h; exact ⟨h1, gs, e, hh.putObj (by omega) (by omega) ho hc, hx⟩) ⟨Nat.zero_le _, E, Lib.hid rfl⟩ ?assign ?body ?done ?stop
   case assign =>
    rintro l i A2 T hi ⟨hik, hJ, hX2⟩ hT
    generalize (pt ps i).1 = x0 at *
    generalize (pt ps i).2 = x1 at *
    generalize (pt ps (i + 1)).1 = x2 at *
    generalize (pt ps (i + 1)).2 = x3 at *
    gi_wp2_with fail
    have E3 := hJ.push [.int .i64 x0, .int .i64 x1, .int .i64 x2, .int .i64 x3] 120
    exact hT _ _ (keeps_grows ((Below.refl _ A2).alloc (Nat.le_refl _) _)) ⟨hik, _, rfl, E3, hX2⟩
   case done =>
    rintro A2 ⟨hik, -, -⟩
    omega
   case stop =>
    rintro c i A2 hi (⟨rfl, hJ, hX2⟩ | ⟨rfl, hik, hJ, hX2⟩)
    ·gi_wp2_with fail
     exact ⟨keeps_mono hJ.k (Nat.zero_le _), hJ.h.tail.tail.tail, Lib.hid (anyTo_no hX.out (by unfold badS; rw [HQ.out, hX2.out]; rfl))⟩
    ·gi_wp2_with fail
     exact ⟨keeps_mono hJ.k (Nat.zero_le _), rfl, (hJ.perm (Mid _ _ _ _ _ _)).h.tail.tail.tail, Lib.hid (by unfold badS; rw [HQ.out, ← anyTo_yes hX2.out hik]; rfl)⟩
   case body =>
    rintro l2 i a' A2 hl2 - ⟨hik, gs, rfl, hJ, hX2⟩ hi
    have hm : lmK ps i k = lmeet (pt ps i).1 (pt ps i).2 (pt ps (i + 1)).1 (pt ps (i + 1)).2 y0 y1 y2 y3 := by unfold lmK; rw [HY0.out, HY1.out, HY2.out, HY3.out]
    obtain ⟨X, hXX⟩ : ∃ X, lmK ps i k = X := ⟨_, rfl⟩
    obtain ⟨Wt, hWt⟩ : ∃ X, wantP ps i k = X := ⟨_, rfl⟩
    have hb : badM ps k i = decide (X ≠ Wt) := by unfold badM; rw [hXX, hWt]
    rw [hXX] at hm
    generalize (pt ps i).1 = x0 at *
    generalize (pt ps i).2 = x1 at *
    generalize (pt ps (i + 1)).1 = x2 at *
    generalize (pt ps (i + 1)).2 = x3 at *
    have HM := Lib.hid hm.symm
    have HW := Lib.hid hWt
    clear hm hWt hXX
    have k8 := hJ.h.tail.tail.tail.fact (.head _) (i := 0) rfl
    by_cases hlt : i < k
    ·have f1 : ((i : Int) == (k : Int)) = false := by rw [beq_eq_false_iff_ne]; omega
     have X0 := (HK.start (B := 0) hJ.h).drew
     gi_wp2_with fail
     clear k8
     by_cases hxw : X = Wt
     ·subst hxw
      have ms1 := Lib.hid (show ∀ w', Has w [(gs, [.int .i64 x0, .int .i64 x1, .int .i64 x2, .int .i64 x3]), (B2, [.slice a ps.length cap]), (gt, [.int .i64 y0, .int .i64 y1, .int .i64 y2, .int .i64 y3]), (gj, [.int .i64 k]), (B, [.slice a ps.length cap]), (w.heap.size, [.slice a ps.length cap]), (w.heap.size + 1, [.bool false])] w' → (w'.cell? ⟨gs, 0, none⟩ = some (.int .i64 x0) ∧ w'.cell? ⟨gs, 1, none⟩ = some (.int .i64 x1) ∧ w'.cell? ⟨gs, 2, none⟩ = some (.int .i64 x2) ∧ w'.cell? ⟨gs, 3, none⟩ = some (.int .i64 x3) ∧ w'.cell? ⟨B2, 0, none⟩ = some (.slice a ps.length cap) ∧ w'.cell? ⟨gt, 0, none⟩ = some (.int .i64 y0) ∧ w'.cell? ⟨gt, 1, none⟩ = some (.int .i64 y1) ∧ w'.cell? ⟨gt, 2, none⟩ = some (.int .i64 y2) ∧ w'.cell? ⟨gt, 3, none⟩ = some (.int .i64 y3) ∧ w'.cell? ⟨gj, 0, none⟩ = some (.int .i64 k) ∧ w'.cell? ⟨B, 0, none⟩ = some (.slice a ps.length cap) ∧ w'.cell? ⟨w.heap.size, 0, none⟩ = some (.slice a ps.length cap) ∧ w'.cell? ⟨w.heap.size + 1, 0, none⟩ = some (.bool false)) ∧ Has w [(gs, [.int .i64 x0, .int .i64 x1, .int .i64 x2, .int .i64 x3]), (B2, [.slice a ps.length cap]), (gt, [.int .i64 y0, .int .i64 y1, .int .i64 y2, .int .i64 y3]), (gj, [.int .i64 k]), (B, [.slice a ps.length cap]), (w.heap.size, [.slice a ps.length cap]), (w.heap.size + 1, [.bool false])] w' from fun w' h => by
       exact ⟨⟨h.fact (.head _) (i := 0) rfl, h.fact (.head _) (i := 1) rfl, h.fact (.head _) (i := 2) rfl, h.fact (.head _) (i := 3) rfl, h.tail.fact (.head _) (i := 0) rfl, h.tail.tail.fact (.head _) (i := 0) rfl, h.tail.tail.fact (.head _) (i := 1) rfl, h.tail.tail.fact (.head _) (i := 2) rfl, h.tail.tail.fact (.head _) (i := 3) rfl, h.tail.tail.tail.fact (.head _) (i := 0) rfl, h.tail.tail.tail.tail.fact (.head _) (i := 0) rfl, h.tail.tail.tail.tail.tail.fact (.head _) (i := 0) rfl, h.tail.tail.tail.tail.tail.tail.fact (.head _) (i := 0) rfl⟩, h⟩)
      refine region_calm (S := (fun w' => (w'.cell? ⟨gs, 0, none⟩ = some (.int .i64 x0) ∧ w'.cell? ⟨gs, 1, none⟩ = some (.int .i64 x1) ∧ w'.cell? ⟨gs, 2, none⟩ = some (.int .i64 x2) ∧ w'.cell? ⟨gs, 3, none⟩ = some (.int .i64 x3) ∧ w'.cell? ⟨B2, 0, none⟩ = some (.slice a ps.length cap) ∧ w'.cell? ⟨gt, 0, none⟩ = some (.int .i64 y0) ∧ w'.cell? ⟨gt, 1, none⟩ = some (.int .i64 y1) ∧ w'.cell? ⟨gt, 2, none⟩ = some (.int .i64 y2) ∧ w'.cell? ⟨gt, 3, none⟩ = some (.int .i64 y3) ∧ w'.cell? ⟨gj, 0, none⟩ = some (.int .i64 k) ∧ w'.cell? ⟨B, 0, none⟩ = some (.slice a ps.length cap) ∧ w'.cell? ⟨w.heap.size, 0, none⟩ = some (.slice a ps.length cap) ∧ w'.cell? ⟨w.heap.size + 1, 0, none⟩ = some (.bool false)) ∧ Has w [(gs, [.int .i64 x0, .int .i64 x1, .int .i64 x2, .int .i64 x3]), (B2, [.slice a ps.length cap]), (gt, [.int .i64 y0, .int .i64 y1, .int .i64 y2, .int .i64 y3]), (gj, [.int .i64 k]), (B, [.slice a ps.length cap]), (w.heap.size, [.slice a ps.length cap]), (w.heap.size + 1, [.bool false])] w')) (by kernel_rfl) (defers_none _ (by kernel_rfl)) (ms1.out _ X0.h) (fun hHeld => ?_)
      refine tbA [0, 1, 3, 4, 5] ?_
      refine tkA (.agg #[.int .i64 x0, .int .i64 x1, .int .i64 x2, .int .i64 x3]) (oi := ⟨some 23, .load 120 (.tmp 6), 120, _, _, none⟩) ?_
      simp only [Act.put, pA, pB, pC]
      refine tkA (.agg #[.int .i64 y0, .int .i64 y1, .int .i64 y2, .int .i64 y3]) (oi := ⟨some 24, .load 120 (.tmp 4), 120, _, _, none⟩) ?_
      simp only [Act.put, pA, pB, pC]
      refine tkA (.slice a ps.length cap) (oi := ⟨some 26, .load 42 (.tmp 1), 42, _, _, none⟩) ?_
      simp only [Act.put, pA, pB, pC]
      refine tkA (.int .i64 i) (oi := ⟨some 27, .move (.tmp 5), 3, _, _, none⟩) ?_
      simp only [Act.put, pA, pB, pC]
      refine tkA (.int .i64 k) (oi := ⟨some 28, .load 3 (.tmp 3), 3, _, _, none⟩) ?_
      simp only [Act.put, pA, pB, pC]
      refine teA ?_
      refine tlA #[true, true, false, true, true, true, false, false] ?_
      refine trA [2] ?_
      refine AllReadyH.cons (o := ⟨some 25, .call { callee := .value (.func 119), args := #[.tmp 23, .tmp 24], argTypes := #[120, 120] }, 3, _, _, none⟩) rfl (fun K hK => ?_) AllReadyH.nil
      go_simp
      go_at_call 119
      refine (HK.call X0 (lmeet_is _ _ _ _ _ _ _ _ _ HM.out _)).mono ?_
      rintro e A3 ⟨rfl, X1⟩
      go_wp2_with fail
      clear hHeld
      refine hK.out _ _ (ms1.out _ X1.h) (fun hHeld => ?_)
      clear hK K
      try simp only [pA, pB, pC]
      refine tlA #[true, true, true, true, true, true, false, false] ?_
      refine trA [6] ?_
      refine AllReadyH.cons (o := ⟨some 29, .call { callee := .value (.func 120), args := #[.tmp 26, .tmp 27, .tmp 28], argTypes := #[42, 3, 3] }, 3, _, _, none⟩) rfl (fun K hK => ?_) AllReadyH.nil
      go_simp
      go_at_call 120
      refine (HK.call X1 (joints_is _ ps i k _ (HV.out.later X1.h.low) (by omega) (by omega) (by omega) _ HW.out)).mono ?_
      rintro e A4 ⟨rfl, X2⟩
      go_wp2_with fail
      clear hHeld
      refine hK.out _ _ (ms1.out _ X2.h) (fun hHeld => ?_)
      clear hK K
      try simp only [pA, pB, pC]
      refine tlA #[true, true, true, true, true, true, true, false] ?_
      refine tbA [7] ?_
      refine tkA (.bool false) (oi := ⟨some 30, .binOp .neq 3 (.tmp 25) (.tmp 29) 3, 4, _, _, none⟩) ?_
      simp only [Act.put, pA, pB, pC]
      refine teA ?_
      refine tlA #[true, true, true, true, true, true, true, true] ?_
      refine wpAnyH_done (by kernel_rfl) ?_ _
      refine Calm.normal ?_
      clear hHeld
      gi_wp2_with fail
      exact ⟨keeps_mono X2.k (Nat.zero_le _), by omega, ⟨X2.h.tail, hJ.k.trans X2.k⟩, Lib.hid (anyTo_no hX2.out (by rw [hb]; simp))⟩
     ·have g1 : (X == Wt) = false := by rw [beq_eq_false_iff_ne]; exact hxw
      have g2 : (X != Wt) = true := by rw [bne_iff_ne]; exact hxw
      have ms1 := Lib.hid (show ∀ w', Has w [(gs, [.int .i64 x0, .int .i64 x1, .int .i64 x2, .int .i64 x3]), (B2, [.slice a ps.length cap]), (gt, [.int .i64 y0, .int .i64 y1, .int .i64 y2, .int .i64 y3]), (gj, [.int .i64 k]), (B, [.slice a ps.length cap]), (w.heap.size, [.slice a ps.length cap]), (w.heap.size + 1, [.bool false])] w' → (w'.cell? ⟨gs, 0, none⟩ = some (.int .i64 x0) ∧ w'.cell? ⟨gs, 1, none⟩ = some (.int .i64 x1) ∧ w'.cell? ⟨gs, 2, none⟩ = some (.int .i64 x2) ∧ w'.cell? ⟨gs, 3, none⟩ = some (.int .i64 x3) ∧ w'.cell? ⟨B2, 0, none⟩ = some (.slice a ps.length cap) ∧ w'.cell? ⟨gt, 0, none⟩ = some (.int .i64 y0) ∧ w'.cell? ⟨gt, 1, none⟩ = some (.int .i64 y1) ∧ w'.cell? ⟨gt, 2, none⟩ = some (.int .i64 y2) ∧ w'.cell? ⟨gt, 3, none⟩ = some (.int .i64 y3) ∧ w'.cell? ⟨gj, 0, none⟩ = some (.int .i64 k) ∧ w'.cell? ⟨B, 0, none⟩ = some (.slice a ps.length cap) ∧ w'.cell? ⟨w.heap.size, 0, none⟩ = some (.slice a ps.length cap) ∧ w'.cell? ⟨w.heap.size + 1, 0, none⟩ = some (.bool false)) ∧ Has w [(gs, [.int .i64 x0, .int .i64 x1, .int .i64 x2, .int .i64 x3]), (B2, [.slice a ps.length cap]), (gt, [.int .i64 y0, .int .i64 y1, .int .i64 y2, .int .i64 y3]), (gj, [.int .i64 k]), (B, [.slice a ps.length cap]), (w.heap.size, [.slice a ps.length cap]), (w.heap.size + 1, [.bool false])] w' from fun w' h => by
       exact ⟨⟨h.fact (.head _) (i := 0) rfl, h.fact (.head _) (i := 1) rfl, h.fact (.head _) (i := 2) rfl, h.fact (.head _) (i := 3) rfl, h.tail.fact (.head _) (i := 0) rfl, h.tail.tail.fact (.head _) (i := 0) rfl, h.tail.tail.fact (.head _) (i := 1) rfl, h.tail.tail.fact (.head _) (i := 2) rfl, h.tail.tail.fact (.head _) (i := 3) rfl, h.tail.tail.tail.fact (.head _) (i := 0) rfl, h.tail.tail.tail.tail.fact (.head _) (i := 0) rfl, h.tail.tail.tail.tail.tail.fact (.head _) (i := 0) rfl, h.tail.tail.tail.tail.tail.tail.fact (.head _) (i := 0) rfl⟩, h⟩)
      refine region_calm (S := (fun w' => (w'.cell? ⟨gs, 0, none⟩ = some (.int .i64 x0) ∧ w'.cell? ⟨gs, 1, none⟩ = some (.int .i64 x1) ∧ w'.cell? ⟨gs, 2, none⟩ = some (.int .i64 x2) ∧ w'.cell? ⟨gs, 3, none⟩ = some (.int .i64 x3) ∧ w'.cell? ⟨B2, 0, none⟩ = some (.slice a ps.length cap) ∧ w'.cell? ⟨gt, 0, none⟩ = some (.int .i64 y0) ∧ w'.cell? ⟨gt, 1, none⟩ = some (.int .i64 y1) ∧ w'.cell? ⟨gt, 2, none⟩ = some (.int .i64 y2) ∧ w'.cell? ⟨gt, 3, none⟩ = some (.int .i64 y3) ∧ w'.cell? ⟨gj, 0, none⟩ = some (.int .i64 k) ∧ w'.cell? ⟨B, 0, none⟩ = some (.slice a ps.length cap) ∧ w'.cell? ⟨w.heap.size, 0, none⟩ = some (.slice a ps.length cap) ∧ w'.cell? ⟨w.heap.size + 1, 0, none⟩ = some (.bool false)) ∧ Has w [(gs, [.int .i64 x0, .int .i64 x1, .int .i64 x2, .int .i64 x3]), (B2, [.slice a ps.length cap]), (gt, [.int .i64 y0, .int .i64 y1, .int .i64 y2, .int .i64 y3]), (gj, [.int .i64 k]), (B, [.slice a ps.length cap]), (w.heap.size, [.slice a ps.length cap]), (w.heap.size + 1, [.bool false])] w')) (by kernel_rfl) (defers_none _ (by kernel_rfl)) (ms1.out _ X0.h) (fun hHeld => ?_)
      refine tbA [0, 1, 3, 4, 5] ?_
      refine tkA (.agg #[.int .i64 x0, .int .i64 x1, .int .i64 x2, .int .i64 x3]) (oi := ⟨some 23, .load 120 (.tmp 6), 120, _, _, none⟩) ?_
      simp only [Act.put, pA, pB, pC]
      refine tkA (.agg #[.int .i64 y0, .int .i64 y1, .int .i64 y2, .int .i64 y3]) (oi := ⟨some 24, .load 120 (.tmp 4), 120, _, _, none⟩) ?_
      simp only [Act.put, pA, pB, pC]
      refine tkA (.slice a ps.length cap) (oi := ⟨some 26, .load 42 (.tmp 1), 42, _, _, none⟩) ?_
      simp only [Act.put, pA, pB, pC]
      refine tkA (.int .i64 i) (oi := ⟨some 27, .move (.tmp 5), 3, _, _, none⟩) ?_
      simp only [Act.put, pA, pB, pC]
      refine tkA (.int .i64 k) (oi := ⟨some 28, .load 3 (.tmp 3), 3, _, _, none⟩) ?_
      simp only [Act.put, pA, pB, pC]
      refine teA ?_
      refine tlA #[true, true, false, true, true, true, false, false] ?_
      refine trA [2] ?_
      refine AllReadyH.cons (o := ⟨some 25, .call { callee := .value (.func 119), args := #[.tmp 23, .tmp 24], argTypes := #[120, 120] }, 3, _, _, none⟩) rfl (fun K hK => ?_) AllReadyH.nil
      go_simp
      go_at_call 119
      refine (HK.call X0 (lmeet_is _ _ _ _ _ _ _ _ _ HM.out _)).mono ?_
      rintro e A3 ⟨rfl, X1⟩
      go_wp2_with fail
      clear hHeld
      refine hK.out _ _ (ms1.out _ X1.h) (fun hHeld => ?_)
      clear hK K
      try simp only [pA, pB, pC]
      refine tlA #[true, true, true, true, true, true, false, false] ?_
      refine trA [6] ?_
      refine AllReadyH.cons (o := ⟨some 29, .call { callee := .value (.func 120), args := #[.tmp 26, .tmp 27, .tmp 28], argTypes := #[42, 3, 3] }, 3, _, _, none⟩) rfl (fun K hK => ?_) AllReadyH.nil
      go_simp
      go_at_call 120
      refine (HK.call X1 (joints_is _ ps i k _ (HV.out.later X1.h.low) (by omega) (by omega) (by omega) _ HW.out)).mono ?_
      rintro e A4 ⟨rfl, X2⟩
      go_wp2_with fail
      clear hHeld
      refine hK.out _ _ (ms1.out _ X2.h) (fun hHeld => ?_)
      clear hK K
      try simp only [pA, pB, pC]
      refine tlA #[true, true, true, true, true, true, true, false] ?_
      refine tbA [7] ?_
      refine tkA (.bool true) (oi := ⟨some 30, .binOp .neq 3 (.tmp 25) (.tmp 29) 3, 4, _, _, none⟩) ?_
      simp only [Act.put, pA, pB, pC]
      refine teA ?_
      refine tlA #[true, true, true, true, true, true, true, true] ?_
      refine wpAnyH_done (by kernel_rfl) ?_ _
      refine Calm.normal ?_
      clear hHeld
      have k9 := X2.h.tail.tail.tail.tail.tail.tail.fact (.head _) (i := 0) rfl
      have f9 := X2.h.tail.tail.tail.tail.tail.tail.free (.head _) (i := 0) rfl
      gi_wp2_with fail
      have X3 := (HK.perm X2.tail (Mid6 _ _ _ _ _ _)).set 0 (by simp) (.bool false)
      exact ⟨keeps_mono X3.k (Nat.zero_le _), .inr ⟨rfl, ⟨X3.h, hJ.k.trans X3.k⟩, Lib.hid (by first | trivial | (rw [hb]; simp [hxw]))⟩⟩
    ·obtain rfl : i = k := by omega
     gi_wp2_with fail
     exact ⟨KeepsFrom.refl _ _, rfl, hJ.tail⟩

end Go.Proofs.YtoaldbjcpfkcjaaGreat

namespace Go.Proofs.YtoaldbjcpfkcjaaGreat
open Go.RowKit Go.Lib

/-- What Check answers, given whether a list does not meet itself. -/
def chkP (ps : List (Int × Int)) (s : Bool) : Int := if ps.length < 2 ∨ 40 < ps.length then 2 else if ps.all rtP = false then 10 else if s = false then 11 else 0
theorem simple_is (v : Value) (ps : List (Int × Int)) (w : World) (hv : RowP w v ps) (hlen : (ps.length : Int) ≤ 1000000) (r : Bool) (h : simpleP ps = r) :
  Calls Tryz.prog 87 #[v] w fun e w' => e = .returned (.bool r) ∧ Below w.heap.size w w' := h ▸ simple_any v ps w hv hlen

set_option maxRecDepth 100000 in
set_option maxHeartbeats 2000000 in
theorem lcheck_any (v : Value) (ps : List (Int × Int)) (w : World) (hv : RowP w v ps) :
  Calls Tryz.prog 58 #[v] w fun e w' => e = .returned (.int .i64 (chkP ps (simpleP ps))) ∧ Below w.heap.size w w' := by
 have hv0 := hv
 obtain ⟨a, cap, rfl, hc1, hc2, -⟩ := hv0
 have HV := Lib.hid hv
 clear hv
 by_cases h1 : ps.length < 2
 ·have HR := Lib.hid (show chkP ps (simpleP ps) = 2 by unfold chkP; rw [if_pos (.inl h1)])
  have e1 : decide ((ps.length : Int) < 2) = true := decide_eq_true (by omega)
  go_enter Tryz.func58, Tryz.ntmps58
  go_wp2_with fail
  go_ret
  exact ⟨ret_i HR.out.symm, by go_grown⟩
 ·have e1 : decide ((ps.length : Int) < 2) = false := decide_eq_false (by omega)
  by_cases h2 : 40 < ps.length
  ·have HR := Lib.hid (show chkP ps (simpleP ps) = 2 by unfold chkP; rw [if_pos (.inr h2)])
   have e2 : decide ((40 : Int) < (ps.length : Int)) = true := decide_eq_true (by omega)
   clear h1 h2
   go_enter Tryz.func58, Tryz.ntmps58
   go_wp2_with fail
   go_ret
   exact ⟨ret_i HR.out.symm, by go_grown⟩
  ·have e2 : decide ((40 : Int) < (ps.length : Int)) = false := decide_eq_false (by omega)
   cases h3 : ps.all rtP
   ·have HR := Lib.hid (show chkP ps (simpleP ps) = 10 by unfold chkP; rw [if_neg (by omega), if_pos h3])
    have H3 := Lib.hid h3
    clear h1 h2 h3
    go_enter Tryz.func58, Tryz.ntmps58
    go_wp2_with fail
    refine (rights_is _ ps w HV.out _ H3.out).mono ?_
    rintro e w1 ⟨rfl, g1⟩
    go_wp2_with fail
    go_ret
    exact ⟨ret_i HR.out.symm, g1⟩
   ·have H3 := Lib.hid h3
    have HL := Lib.hid (show (ps.length : Int) ≤ 1000000 by omega)
    cases h4 : simpleP ps
    ·have HR := Lib.hid (show chkP ps false = 11 by unfold chkP; rw [if_neg (by omega), if_neg (by rw [h3]; simp), if_pos rfl])
     have H4 := Lib.hid h4
     clear h1 h2 h3 h4
     go_enter Tryz.func58, Tryz.ntmps58
     go_wp2_with fail
     refine (rights_is _ ps w HV.out _ H3.out).mono ?_
     rintro e w1 ⟨rfl, g1⟩
     go_wp2_with fail
     refine (simple_is _ ps w1 (HV.out.later g1) HL.out _ H4.out).mono ?_
     rintro e w2 ⟨rfl, g2⟩
     go_wp2_with fail
     go_ret
     exact ⟨ret_i HR.out.symm, Grows.then g1 g2⟩
    ·have HR := Lib.hid (show chkP ps true = 0 by unfold chkP; rw [if_neg (by omega), if_neg (by rw [h3]; simp), if_neg (by simp)])
     have H4 := Lib.hid h4
     clear h1 h2 h3 h4
     go_enter Tryz.func58, Tryz.ntmps58
     go_wp2_with fail
     refine (rights_is _ ps w HV.out _ H3.out).mono ?_
     rintro e w1 ⟨rfl, g1⟩
     go_wp2_with fail
     refine (simple_is _ ps w1 (HV.out.later g1) HL.out _ H4.out).mono ?_
     rintro e w2 ⟨rfl, g2⟩
     go_wp2_with fail
     go_ret
     exact ⟨ret_i HR.out.symm, Grows.then g1 g2⟩

end Go.Proofs.YtoaldbjcpfkcjaaGreat
