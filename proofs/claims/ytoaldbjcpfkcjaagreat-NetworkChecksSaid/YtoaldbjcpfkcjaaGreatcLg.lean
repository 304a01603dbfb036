/- Groups of the reference. -/
import Derived.Test.YtoaldbjcpfkcjaaGreatcFi
import Derived.Test.YtoaldbjcpfkcjaaGreatcLa
import Derived.Test.YtoaldbjcpfkcjaaGreatcPu
import Derived.Laws.CopyOwn
import Derived.Deep.Heap
namespace Go.Proofs.YtoaldbjcpfkcjaaGreat
open Go.RowKit Go.Lib

theorem lexle_drop : ∀ (k : Nat) {xs ys : List Int}, xs.take k = ys.take k → k ≤ xs.length → k ≤ ys.length → lexle ys xs = lexle (ys.drop k) (xs.drop k)
 | 0, xs, ys, _, _, _ => by simp
 | k + 1, [], _, _, h, _ => by simp at h
 | k + 1, _ :: _, [], _, _, h => by simp at h
 | k + 1, x :: xs, y :: ys, h, h1, h2 => by
  simp only [List.take_succ_cons, List.cons.injEq] at h
  obtain ⟨rfl, h⟩ := h
  rw [List.drop_succ_cons, List.drop_succ_cons, ← lexle_drop k h (by simpa using h1) (by simpa using h2)]
  simp [lexle]
set_option linter.unusedSimpArgs false in
set_option maxRecDepth 100000 in
set_option maxHeartbeats 4000000 in
theorem before_any (u v : Value) (xs ys : List Int) (w : World) (hu : RowN w u xs) (hv : RowN w v ys) :
  Calls Tryz.prog 45 #[u, v] w fun e w' => e = .returned (.bool (!lexle ys xs)) ∧ Below w.heap.size w w' := by
 obtain ⟨ua, n, uc, rfl, hn, hc1, hc2, hu⟩ := hu.form
 obtain ⟨va, m, vc, rfl, hm, hd1, hd2, hv⟩ := hv.form
 obtain ⟨res, hres⟩ : ∃ res, (!lexle ys xs) = res := ⟨_, rfl⟩
 rw [hres]
 have HU := Lib.hid hu
 have HV := Lib.hid hv
 have HN := Lib.hid hn
 have HM := Lib.hid hm
 have HR := Lib.hid hres
 clear hu hv hn hm hres
 go_enter Tryz.func45, Tryz.ntmps45
 go_wp2_with fail
 go_loopw [5] (fun r W => ∃ k : Nat, k ≤ n ∧ k ≤ m ∧ r = .int .i64 k ∧ Below w.heap.size w W ∧ Hid (xs.take k = ys.take k)) (fun r _ => n - (RowKit.intOf r).toNat)
 case atStart => exact ⟨0, Nat.zero_le _, Nat.zero_le _, rfl, Below.refl _ _, Lib.hid (by simp)⟩
 case round =>
  obtain ⟨k, hk, hkm, rfl, hG, HT⟩ := hrel
  have HD := Lib.hid (show (!lexle (ys.drop k) (xs.drop k)) = res by rw [← lexle_drop k HT.out (by rw [HN.out]; exact hk) (by rw [HM.out]; exact hkm)]; exact HR.out)
  by_cases hkn : k < n
  ·have b1 : (k : Int) < n := by omega
   have b2 : (0 : Int) ≤ k := by omega
   by_cases hkm2 : k < m
   ·have b3 : (k : Int) < m := by omega
    have kw : IntKind.i64.wrap ((k : Int) + 1) = (k : Int) + 1 := by rw [IntKind.wrap_i64]; omega
    obtain ⟨x, hx⟩ : ∃ x, xs[k]? = some x := ⟨_, List.getElem?_eq_getElem (by rw [HN.out]; exact hkn)⟩
    obtain ⟨y, hy⟩ : ∃ x, ys[k]? = some x := ⟨_, List.getElem?_eq_getElem (by rw [HM.out]; exact hkm2)⟩
    obtain ⟨bb, oo, rfl, hq⟩ := (HU.out.later hG).spot (by rw [HN.out]; omega)
    obtain ⟨cc, pp, rfl, hq'⟩ := (HV.out.later hG).spot (by rw [HM.out]; omega)
    have x0 := hq k x hx
    have y0 := hq' k y hy
    have HX := Lib.hid hx
    have HY := Lib.hid hy
    have dx : xs.drop k = x :: xs.drop (k + 1) := by
     obtain ⟨h1, h2⟩ := List.getElem?_eq_some_iff.1 hx
     rw [List.drop_eq_getElem_cons h1, h2]
    have dy : ys.drop k = y :: ys.drop (k + 1) := by
     obtain ⟨h1, h2⟩ := List.getElem?_eq_some_iff.1 hy
     rw [List.drop_eq_getElem_cons h1, h2]
    by_cases he : x = y
    ·have z : (x != y) = false := by rw [he]; simp
     have HT2 := Lib.hid (show xs.take (k + 1) = ys.take (k + 1) by rw [take_snoc hx, take_snoc hy, HT.out, he])
     clear hx hy hq hq' he dx dy
     go_upto_region 4 with fail
     go_quiet (fail)
     have hG2 := hG.trans ((below_drewN (Below.refl _ wr) nq).mono hG.size)
     generalize wr.drewN nq = w2 at *
     clear x0 y0 hG
     go_wp2_with fail
     go_roundw
     case rel => exact ⟨k + 1, by omega, by omega, by go_num, hG2, HT2⟩
     case measure => simp [RowKit.intOf]; omega
    ·have z : (x != y) = true := by simp [bne, he]
     have HE := Lib.hid (show decide (x < y) = res by
      rw [← HD.out, dx, dy]
      unfold lexle
      rw [if_neg (Ne.symm he)]
      by_cases h : x < y
      ·rw [decide_eq_true h, decide_eq_false (by omega)]; rfl
      ·rw [decide_eq_false h, decide_eq_true (by omega)]; rfl)
     clear hx hy hq hq' he dx dy
     go_upto_region 4 with fail
     go_quiet (fail)
     have hG2 := hG.trans ((below_drewN (Below.refl _ wr) nq).mono hG.size)
     have x1 := (Below.cell (below_drewN (Below.refl _ wr) nq) (World.block_lt_of_cell? wr _ x0)).trans x0
     have y1 := (Below.cell (below_drewN (Below.refl _ wr) nq) (World.block_lt_of_cell? wr _ y0)).trans y0
     generalize wr.drewN nq = w2 at *
     clear x0 y0 hG
     go_upto_region 5 with fail
     go_quiet (fail)
     have hG3 := hG2.trans ((below_drewN (Below.refl _ w2) nq).mono hG2.size)
     generalize w2.drewN nq = w3 at *
     clear x1 y1 hG2
     go_wp2_with fail
     go_ret
     exact ⟨by rw [← HE.out]; rfl, hG3⟩
   ·have b3 : ¬ (k : Int) < m := by omega
    have b4 : ¬ (n : Int) < m := by omega
    have b5 : decide ((n : Int) < m) = false := decide_eq_false b4
    have HE := Lib.hid (show false = res by
     rw [← HD.out, List.drop_of_length_le (l := ys) (by rw [HM.out]; omega)]
     rfl)
    go_wp2_with fail
    go_ret
    exact ⟨by rw [← HE.out]; rfl, hG⟩
  ·have b1 : ¬ (k : Int) < n := by omega
   have HE := Lib.hid (show decide (n < m) = res by
    rw [← HD.out, List.drop_of_length_le (l := xs) (by rw [HN.out]; omega)]
    by_cases h : k < m
    ·obtain ⟨y, hy⟩ : ∃ x, ys[k]? = some x := ⟨_, List.getElem?_eq_getElem (by rw [HM.out]; exact h)⟩
     obtain ⟨h1, h2⟩ := List.getElem?_eq_some_iff.1 hy
     rw [List.drop_eq_getElem_cons h1, decide_eq_true (by omega)]
     rfl
    ·rw [List.drop_of_length_le (l := ys) (by rw [HM.out]; omega), decide_eq_false (by omega)]
     rfl)
   go_wp2_with fail
   go_ret
   exact ⟨by rw [← HE.out]; rfl, hG⟩

end Go.Proofs.YtoaldbjcpfkcjaaGreat

namespace Go.Proofs.YtoaldbjcpfkcjaaGreat
open Go.RowKit Go.Lib

abbrev SV := Option Addr × Nat × Nat
def sv (u : SV) : Value := .slice u.1 u.2.1 u.2.2
def tS : G.Ty SV := ⟨fun u => [sv u], 1, 34, 22, .slice none 0 0, 24⟩
theorem tS_ok : tS.Ok := ⟨fun _ => rfl, fun x v h => by obtain rfl := List.mem_singleton.1 h; rfl, by decide, by decide, Tryz.underlying34, by kernel_rfl, rfl⟩
theorem flatI : ∀ (xs : List Int), xs.flatMap G.tI.enc = xs.map (Value.int .i64)
 | [] => rfl
 | x :: xs => by rw [List.flatMap_cons, flatI xs]; rfl
theorem flatS : ∀ (us : List SV), us.flatMap tS.enc = us.map sv
 | [] => rfl
 | x :: xs => by rw [List.flatMap_cons, flatS xs]; rfl
theorem ownN_of {b : Nat} {w : World} {v : Value} {xs : List Int} (h : G.Own G.tI b w v xs) : OwnN b w v xs := by
 unfold OwnN; rw [← flatI]; exact h
/-- Lists of numbers of the call's own, by their slices. -/
structure InS (b : Nat) (w : World) (us : List SV) (gs : List (List Int)) : Prop where
 len : us.length = gs.length
 own : ∀ (i : Nat) (u : SV) (xs : List Int), us[i]? = some u → gs[i]? = some xs → OwnN b w (sv u) xs
theorem InS.later {b : Nat} {w w' : World} {us : List SV} {gs : List (List Int)} (h : InS b w us gs) (g : Grows w w') : InS b w' us gs := ⟨h.len, fun i u xs hu hx => (h.own i u xs hu hx).later g⟩
theorem ownN_off {b k : Nat} {w : World} {u : Value} {xs : List Int} {cur : Array Value} (h : OwnN b w u xs) (hg : w.heap[k]? = some (.cells cur 22 (0, 0))) : u.ownBlock ≠ some k := by
 intro e
 rcases h.2 with ⟨q, -⟩ | ⟨g', cap, cur', q, _, q3, -⟩
 ·rw [q] at e; cases e
 ·rw [q] at e; cases e; rw [hg] at q3; cases q3
theorem InS.same {b g : Nat} {w w' : World} {us : List SV} {gs : List (List Int)} {cur : Array Value} (h : InS b w us gs) (hg : w.heap[g]? = some (.cells cur 22 (0, 0))) (hs : ∀ k, k < w.heap.size → k ≠ g → w'.heap[k]? = w.heap[k]?) : InS b w' us gs :=
 ⟨h.len, fun i u xs hu hx => ownsRow_same (h.own i u xs hu hx) fun k e => hs k (World.ownsRow.lt (h.own i u xs hu hx) k e).2 (fun e2 => ownN_off (h.own i u xs hu hx) hg (by rw [e, e2]))⟩
theorem ownS_block {b k : Nat} {w : World} {v : Value} {us : List SV} (h : G.Own tS b w v us) (e : v.ownBlock = some k) : ∃ cur, w.heap[k]? = some (.cells cur 22 (0, 0)) := by
 rcases h.2 with ⟨q, -⟩ | ⟨g', cap, cur', q, _, q3, -⟩
 ·rw [q] at e; cases e
 ·rw [q] at e; cases e; exact ⟨_, q3⟩
theorem ownN_grown {b c : Nat} {w w' : World} {v u : Value} {us : List SV} {xs : List Int} (h : OwnN c w u xs) (ho : G.Own tS b w v us) (hg : w.grownBy w' v.ownBlock) : OwnN c w' u xs :=
 ownsRow_same h fun k e => hg.block k (World.ownsRow.lt h k e).2 (fun e2 => by
  obtain ⟨cur, hc⟩ := ownS_block ho e2.symm
  exact ownN_off h hc e)
theorem InS.grown {b c : Nat} {w w' : World} {v : Value} {us us0 : List SV} {gs : List (List Int)} (h : InS c w us gs) (ho : G.Own tS b w v us0) (hg : w.grownBy w' v.ownBlock) : InS c w' us gs :=
 ⟨h.len, fun i u xs hu hx => ownN_grown (h.own i u xs hu hx) ho hg⟩
/-- The groups so far. -/
structure OutS (w W : World) (v : Value) (gs : List (List Int)) : Prop where
 low : Grows w W
 ex : ∃ us, G.Own tS w.heap.size W v us ∧ InS w.heap.size W us gs
theorem OutS.nil (w : World) : OutS w w (.slice none 0 0) [] := ⟨Below.refl _ _, [], G.Own.nil _ _, rfl, fun i u xs h => by simp at h⟩
theorem OutS.later {w W W' : World} {v : Value} {gs : List (List Int)} (h : OutS w W v gs) (g : Grows W W') : OutS w W' v gs := by
 obtain ⟨us, h1, h2⟩ := h.ex
 exact ⟨h.low.then g, us, h1.later g, h2.later g⟩
theorem OutS.row {w W : World} {v : Value} {gs : List (List Int)} (h : OutS w W v gs) : RowG W v gs := by
 obtain ⟨us, h1, h2⟩ := h.ex
 obtain ⟨a, c, rfl, e1, e2⟩ := h1.form
 have hr := h1.row
 refine ⟨a, c, by rw [← h2.len], by rw [← h2.len]; exact e1, e2, ?_⟩
 rcases Nat.eq_zero_or_pos us.length with q | q
 ·exact .inl (List.eq_nil_of_length_eq_zero (by rw [← h2.len]; exact q))
 ·obtain ⟨bb, o, rfl, hc⟩ := hr.spot tS_ok q
  refine .inr ⟨bb, o, rfl, fun i xs hx => ?_⟩
  obtain ⟨u, hu⟩ : ∃ u, us[i]? = some u := ⟨_, List.getElem?_eq_getElem (by rw [h2.len]; exact (List.getElem?_eq_some_iff.1 hx).1)⟩
  refine ⟨sv u, (h2.own i u xs hu hx).row, ?_⟩
  have := hc i u 0 (sv u) hu rfl
  simpa [tS] using this
/-- What a copy in the block g leaves. -/
structure CopyW (w w' : World) (g : Nat) (L : List Value) : Prop where
 here : w'.heap[g]? = some (.cells L.toArray 22 (0, 0))
 oth : ∀ k, k ≠ g → w'.heap[k]? = w.heap[k]?
 os : w'.os = w.os
 tape : w'.tape = w.tape
 output : w'.output = w.output
 size : w'.heap.size = w.heap.size
theorem step_copy_w {ops : Array Oper} {o : Oper} {a : Act} {w : World} {K : Act → World → Prop} {Q : Exit → Act → World → Prop} {E : Prop} (hgd : o.guard = none) (d s : Operand)
  (ho : o.op = .call { callee := .builtin .copy, args := #[d, s], argTypes := #[34, 34] })
  (dp sp : Option Addr) (dLen dCap sLen sCap : Nat) (hd : a.eval d = .slice dp dLen dCap) (hs : a.eval s = .slice sp sLen sCap)
  (g off : Nat) (cur : List Value) (hg : w.heap[g]? = some (.cells cur.toArray 22 (0, 0))) (cs : List Value) (hn : cs.length = Nat.min sLen dLen)
  (hpos : 0 < cs.length → dp = some ⟨g, off, none⟩ ∧ ∃ ad, sp = some ad ∧ ∀ j v, cs[j]? = some v → w.cell? (ad.add j) = some v)
  (hfit : off + cs.length ≤ cur.length) (h1 : ∀ v ∈ cs, v.oneCell' = true)
  (h : ∀ w', Hid (CopyW w w' g (splice cur off cs)) → K (a.put o.dst (goInt cs.length)) w') :
  if Region.wanted o (yielded ops a.tmps) = true then Oper.wp Tryz.prog o a w K Q else E := by
 have hw : Region.wanted o (yielded ops a.tmps) = true := by simp [Region.wanted, hgd]
 have hu : Tryz.prog.underlying 34 = some (.slice 22) := Tryz.underlying34
 have hsz : (Tryz.prog.info? 22).map (·.size) = some 1 := by kernel_rfl
 rw [if_pos hw]
 by_cases h0 : cs.length = 0
 ·obtain rfl : cs = [] := List.eq_nil_of_length_eq_zero h0
  have hrun := run_copy_none (P := Tryz.prog) w 34 34 o.type 22 dp sp dLen dCap sLen sCap hu hsz (by simpa using hn.symm)
  unfold Oper.wp
  simp [execOp, ho, resolve, invoke, builtin, hd, hs, hrun, Result.andThen]
  exact h w (Lib.hid ⟨by simpa [splice] using hg, fun _ _ => rfl, rfl, rfl, rfl, rfl⟩)
 ·obtain ⟨rfl, ad, rfl, hsrc⟩ := hpos (by omega)
  have hrun := run_copy_row (P := Tryz.prog) w 34 34 o.type 22 g off dLen dCap ad sLen sCap cur.toArray 22 cs hu hsz hg hn hsrc (by simpa using hfit) h1
  unfold Oper.wp
  simp [execOp, ho, resolve, invoke, builtin, hd, hs, hrun, Result.andThen]
  exact h _ (Lib.hid ⟨by simpa [splice] using setRow_heap w g _ _ 22 _ hg, fun k hk => setRow_other w g k _ hk, rfl, rfl, rfl, by simp [World.setRow]⟩)
theorem take_ins {cur A : List Value} {m P : Nat} {x z : Value} (h : cur.take m = A ++ [z]) (hm : A.length + 1 = m) (hP : P ≤ A.length) : ((splice cur (P + 1) (A.drop P)).set P x).take m = A.take P ++ x :: A.drop P := by
 have hml : m ≤ cur.length := by
  have := congrArg List.length h
  rw [List.length_take, List.length_append, List.length_singleton] at this; omega
 have e1 : cur.take P = A.take P := by
  have := congrArg (List.take P) h
  rw [List.take_take, Nat.min_eq_left (by omega), List.take_append_of_le_length hP] at this
  exact this
 obtain ⟨q, hq⟩ : ∃ q, cur[P]? = some q := ⟨_, List.getElem?_eq_getElem (by omega)⟩
 have e2 : cur.take (P + 1) = A.take P ++ [q] := by rw [List.take_add_one, hq, e1]; rfl
 have e3 : (A.take P).length = P := by rw [List.length_take]; omega
 unfold splice
 rw [e2, List.append_assoc, List.set_append_right _ _ (by rw [e3]; exact Nat.le_refl _), e3, Nat.sub_self]
 simp only [List.singleton_append, List.set_cons_zero]
 rw [List.take_append, e3, List.take_of_length_le (by rw [e3]; omega)]
 congr 1
 obtain ⟨r, hr⟩ : ∃ r, m - P = r + 1 := ⟨m - P - 1, by omega⟩
 rw [hr, List.take_succ_cons]
 congr 1
 rw [List.take_append_of_le_length (by rw [List.length_drop]; omega), List.take_of_length_le (by rw [List.length_drop]; omega)]
theorem heap_setCell {w : World} {g P : Nat} {u : Value} {cur : Array Value} {t : TypeId} (hg : w.heap[g]? = some (.cells cur t (0, 0))) : (w.setCell ⟨g, P, none⟩ u).heap[g]? = some (.cells (cur.setIfInBounds P u) t (0, 0)) := by
 simp [World.setCell, Array.getElem?_modify, hg]
theorem map_ins (us : List SV) (P : Nat) (u : SV) : (us.take P ++ u :: us.drop P).map sv = (us.map sv).take P ++ sv u :: (us.map sv).drop P := by
 rw [List.map_append, List.map_cons, List.map_take, List.map_drop]
/-- A list is put among lists: behind the append, the copy and the store. -/
theorem OutS.insert {w W W2 : World} {g m c P : Nat} {us : List SV} {gs : List (List Int)} {u : SV} {xs : List Int} {cur : List Value} (hl : Grows w W) (hg : W.heap[g]? = some (.cells cur.toArray 22 (0, 0))) (hge : w.heap.size ≤ g) (hcap : m ≤ c) (hmax : c ≤ maxLen) (hsz : cur.length = c)
  (hcur : cur.take m = us.map sv ++ [.slice none 0 0]) (hI : InS w.heap.size W us gs) (hm : us.length + 1 = m) (hP : P ≤ us.length) (hu : OwnN w.heap.size W (sv u) xs) (hC : CopyW W W2 g (splice cur (P + 1) ((us.map sv).drop P))) :
  OutS w (W2.setCell ⟨g, P, none⟩ (sv u)) (.slice (some ⟨g, 0, none⟩) m c) (gs.take P ++ xs :: gs.drop P) := by
 have hb : ∀ k, k ≠ g → (W2.setCell ⟨g, P, none⟩ (sv u)).heap[k]? = W.heap[k]? := fun k hk => (Deep.blk_setCell_other _ _ _ _ hk).trans (hC.oth k hk)
 refine ⟨hl.trans ⟨by rw [← hC.os]; rfl, by rw [← hC.tape]; rfl, by rw [← hC.output]; rfl, by rw [Deep.nblk_setCell, hC.size]; exact Nat.le_refl _, fun k hk => hb k (by omega)⟩, us.take P ++ u :: us.drop P, ?_, ?_⟩
 ·have hlen : (us.take P ++ u :: us.drop P).length = m := by simp; omega
  refine ⟨by rw [flatS, List.length_map]; show _ = _ * 1; omega, .inr ⟨g, c, ((splice cur (P + 1) ((us.map sv).drop P)).set P (sv u)).toArray, by rw [hlen], hge, ?_, by rw [hlen]; exact hcap, hmax, ?_, ?_⟩⟩
  ·rw [heap_setCell hC.here, List.setIfInBounds_toArray]; rfl
  ·show _ = c * 1
   have h1 : m ≤ cur.length := by omega
   rw [List.size_toArray, List.length_set, length_splice _ _ _ (by rw [List.length_drop, List.length_map]; omega), hsz]; omega
  ·rw [hlen, flatS, map_ins]
   show List.take (m * 1) _ = _
   rw [Nat.mul_one, List.toList_toArray]
   exact take_ins hcur (by rw [List.length_map]; exact hm) (by rw [List.length_map]; exact hP)
 ·have hI2 := hI.same hg (w' := W2.setCell ⟨g, P, none⟩ (sv u)) (fun k _ hk => hb k hk)
  have hu2 : OwnN w.heap.size (W2.setCell ⟨g, P, none⟩ (sv u)) (sv u) xs := ownsRow_same hu fun k e => hb k (fun e2 => ownN_off hu hg (by rw [e, e2]))
  have hPg : P ≤ gs.length := by rw [← hI.len]; exact hP
  have e1 : (us.take P).length = P := by rw [List.length_take]; omega
  have e2 : (gs.take P).length = P := by rw [List.length_take]; omega
  refine ⟨by simp [hI.len], fun i v ys hv hy => ?_⟩
  rw [List.getElem?_append] at hv hy
  rw [e1] at hv
  rw [e2] at hy
  split at hv
  ·next q =>
   rw [if_pos q, List.getElem?_take, if_pos q] at hy
   rw [List.getElem?_take, if_pos q] at hv
   exact hI2.own i v ys hv hy
  ·next q =>
   rw [if_neg q] at hy
   rcases Nat.eq_zero_or_pos (i - P) with z | z
   ·rw [z] at hv hy
    cases hv; cases hy; exact hu2
   ·obtain ⟨r, hr⟩ : ∃ r, i - P = r + 1 := ⟨i - P - 1, by omega⟩
    rw [hr, List.getElem?_cons_succ, List.getElem?_drop] at hv hy
    exact hI2.own _ v ys hv hy
set_option linter.unusedSimpArgs false in
set_option maxRecDepth 100000 in
set_option maxHeartbeats 8000000 in
theorem rgroups_any (v : Value) (ws : List Wy) (w : World) (RW : RowW w v ws) (h6 : ws.length ≤ 1000) :
  Calls Tryz.prog 17 #[v] w fun e w' => ∃ u, e = .returned u ∧ RowG w' u (grpW ws) ∧ Below w.heap.size w w' := by
 obtain ⟨wa, n, wc, rfl, hn, hc1, hc2, RW⟩ := RW.form
 have HN := Lib.hid hn
 have HW := Lib.hid RW
 have HC := Lib.hid (labels_any (.slice wa n wc) ws w RW h6)
 have hn6 : n ≤ 1000 := by omega
 clear hn RW h6
 go_enter Tryz.func17, Tryz.ntmps17
 go_wp2_with fail
 refine HC.out.mono ?_
 rintro e w1 ⟨u, L, rfl, hR, hL, g1⟩
 obtain ⟨ua, un, uc, rfl, hun, hu1, hu2, hR⟩ := hR.form
 obtain rfl : un = n := by rw [← hun, hL.len]; exact HN.out
 have HR := Lib.hid hR
 have HL := Lib.hid hL
 have HG1 := Lib.hid (show Grows w w1 from g1)
 have HU := Lib.hid hun
 clear hR hL g1 hun HC
 go_wp2_with fail
 go_loopw [4, 5] (fun o i W => ∃ m : Nat, m ≤ un ∧ i = .int .i64 m ∧ Hid (OutS w1 W o (sortG (preG ws m)))) (fun _ i _ => un - (RowKit.intOf i).toNat)
 case atStart => exact ⟨0, Nat.zero_le _, rfl, Lib.hid (show OutS w1 w1 _ (sortG (preG ws 0)) by rw [show sortG (preG ws 0) = [] by simp [preG, sortG]]; exact OutS.nil w1)⟩
 case round =>
  obtain ⟨i, hi, rfl, HO⟩ := hrel
  generalize wr = WR at *
  by_cases hin : i < un
  ·have b2 : (i : Int) < un := by omega
   have b3 : (0 : Int) ≤ i := by omega
   obtain ⟨lb, lo, rfl, hlc⟩ := HR.out.spot (by rw [HU.out]; omega)
   obtain ⟨li, hli⟩ : ∃ x, L[i]? = some x := ⟨_, List.getElem?_eq_getElem (by rw [HU.out]; exact hin)⟩
   have HLC := Lib.hid hlc
   have c0 := (HO.out.low.cell (World.block_lt_of_cell? w1 _ (hlc i li hli))).trans (hlc i li hli)
   have hiw : i < ws.length := by rw [HN.out]; exact hin
   by_cases hr : i ∈ reps ws.length (CC ws)
   ·obtain rfl : li = (i : Int) := (HL.out.own hiw hli).2 hr
    have HRP := Lib.hid hr
    clear hr hli hlc hiw
    go_wp2_with fail
    go_loopw [6, 7] (fun o' k W => ∃ (q : Nat) (xs : List Int), q ≤ un ∧ k = .int .i64 q ∧ xs.length ≤ q ∧ Hid (GrpI ws i q xs) ∧ Hid (G.Own G.tI WR.heap.size W o' xs) ∧ Grows WR W) (fun _ k _ => un - (RowKit.intOf k).toNat)
    case atStart => exact ⟨0, [], Nat.zero_le _, rfl, Nat.le_refl _, Lib.hid (GrpI.start ws i), Lib.hid (G.Own.nil _ _), Below.refl _ _⟩
    case round =>
     obtain ⟨q, xs, hq, rfl, hxl, HX, HXO, g2⟩ := hrel
     clear c0
     generalize wr = W at *
     have HGW := Lib.hid g2
     clear g2
     by_cases hqn : q < un
     ·have b4 : (q : Int) < un := by omega
      have b5 : (0 : Int) ≤ q := by omega
      obtain ⟨lq, hlq⟩ : ∃ x, L[q]? = some x := ⟨_, List.getElem?_eq_getElem (by rw [HU.out]; exact hqn)⟩
      have hc := HLC.out q lq hlq
      have c1 := ((HO.out.low.then HGW.out).cell (World.block_lt_of_cell? w1 _ hc)).trans hc
      have hqw : q < ws.length := by rw [HN.out]; exact hqn
      by_cases hcc : CC ws i q = true
      ·obtain rfl : lq = (i : Int) := (HL.out.cls HRP.out hqw hlq).2 hcc
       obtain ⟨bb, oo, rfl, hcell⟩ := HW.out.spot (by omega)
       obtain ⟨tq, htq⟩ : ∃ t, ws[q]? = some t := ⟨_, List.getElem?_eq_getElem hqw⟩
       obtain ⟨-, -, d0, -⟩ := hcell q tq htq
       have d1 := (((HG1.out.then HO.out.low).then HGW.out).cell (World.block_lt_of_cell? w _ d0)).trans d0
       have HCC := Lib.hid hcc
       have HID := Lib.hid (show idsOf ws q = tq.id by unfold idsOf; rw [htq]; rfl)
       clear hlq hc hqw hcc hcell htq d0
       go_wp2_with fail
       refine (G.put_any (b := WR.heap.size) _ xs tq.id W HXO.out (by omega)).mono ?_
       rintro e W2 ⟨⟨u2, rfl, hO2⟩, g2⟩
       have HO2 := Lib.hid (hO2.base HGW.out.size)
       have HG2 := HGW.out.then g2
       have HX2 := Lib.hid (HID.out ▸ HX.out.yes HCC.out)
       clear hO2 g2 c1 d1
       go_wp2_with fail
       go_roundw
       case rel => exact ⟨q + 1, _, by omega, by go_num, by rw [G.putL_length]; omega, HX2, HO2, HG2⟩
       case measure => simp [RowKit.intOf]; omega
      ·have hne : (lq == (i : Int)) = false := by
        rw [beq_eq_false_iff_ne]
        exact fun e => hcc ((HL.out.cls HRP.out hqw hlq).1 e)
       have HX2 := Lib.hid (HX.out.no (by simpa using hcc))
       clear hlq hc hqw hcc
       go_wp2_with fail
       go_roundw
       case rel => exact ⟨q + 1, _, by omega, by go_num, by omega, HX2, HXO, HGW.out⟩
       case measure => simp [RowKit.intOf]; omega
     ·obtain rfl : q = un := by omega
      clear b2 hqn
      have hx : xs = sortI (clsI ws i ws.length) := by rw [HN.out]; exact HX.out
      have HP := Lib.hid (show sortG (preG ws (i + 1)) = insL (sortG (preG ws i)) xs by rw [preG_yes HRP.out, ← insL_sortG, hx])
      have HO1 := Lib.hid (HO.out.later HGW.out)
      obtain ⟨gs, hgs⟩ : ∃ gs, sortG (preG ws i) = gs := ⟨_, rfl⟩
      rw [hgs] at HP HO1
      obtain ⟨us, hOw, hI⟩ := HO1.out.ex
      obtain ⟨oa, oc, rfl, ho1, ho2⟩ := hOw.form
      obtain ⟨N, hN⟩ : ∃ N, us.length = N := ⟨_, rfl⟩
      have HO0 := Lib.hid HO.out.low.size
      have hNl : N ≤ 1000 := by
       rw [← hN, hI.len, ← hgs, (sortG_perm _).length_eq]
       unfold preG
       rw [List.length_map]
       exact Nat.le_trans (List.length_filter_le _ _) (by rw [List.length_range]; omega)
      rw [hN] at hOw ho1 ⊢
      obtain ⟨ga, gc, rfl, hg1, hg2⟩ := HXO.out.form
      obtain ⟨M, hM⟩ : ∃ M, xs.length = M := ⟨_, rfl⟩
      have HXN := Lib.hid (ownN_of HXO.out)
      rw [hM] at HXN hg1 ⊢
      have HOw := Lib.hid hOw
      have HI := Lib.hid hI
      have HNN := Lib.hid hN
      have HLOW := Lib.hid HO1.out.low
      have hMl : M ≤ 1000 := by omega
      clear hx hgs hOw hI hN HO1 HXO HX HO hM hxl
      go_upto_block 4 with fail
      go_cut [8] (fun a W2 => ∃ P : Nat, a = .int .i64 P ∧ P ≤ N ∧ Hid (insL gs xs = gs.take P ++ (xs :: gs.drop P)) ∧ Hid (Grows W W2))
      case first =>
       go_wp2_with fail
       go_loopw [8] (fun a W2 => ∃ p : Nat, p ≤ N ∧ a = .int .i64 p ∧ Hid (G.posG ltG gs xs p = G.posG ltG gs xs N) ∧ Hid (Grows W W2)) (fun a _ => (RowKit.intOf a).toNat)
       case atStart => exact ⟨N, Nat.le_refl _, rfl, Lib.hid rfl, Lib.hid (Below.refl _ _)⟩
       case round =>
        obtain ⟨p, hp, rfl, HT, hgw⟩ := hrel
        generalize wr = W3 at *
        by_cases h0 : p = 0
        ·have HE := Lib.hid (show insL gs xs = gs.take p ++ (xs :: gs.drop p) by
          have := HT.out
          subst h0
          unfold insL G.insG; rw [← HI.out.len, HNN.out, ← this]; rfl)
         have b1 : ¬ (p : Int) > 0 := by omega
         have z8 : decide ((0 : Int) < (p : Int)) = false := decide_eq_false (by omega)
         have z9 : ¬ 0 < p := by omega
         clear HT h0
         have HGX := Lib.hid hgw.out
         clear hgw
         go_wp2_with fail
         go_meet
         exact ⟨p, rfl, hp, HE, HGX⟩
        ·obtain ⟨q, rfl⟩ : ∃ q, p = q + 1 := ⟨p - 1, by omega⟩
         obtain ⟨y, hy⟩ : ∃ y, gs[q]? = some y := ⟨_, List.getElem?_eq_getElem (by rw [← HI.out.len, HNN.out]; omega)⟩
         obtain ⟨⟨ya, yn, yc⟩, hu⟩ : ∃ u, us[q]? = some u := ⟨_, List.getElem?_eq_getElem (by rw [HNN.out]; omega)⟩
         obtain ⟨og, oo2, rfl, hoc⟩ := HOw.out.row.spot tS_ok (by rw [HNN.out]; omega)
         have hcy := hoc q _ 0 _ hu rfl
         have hcy2 : W.cell? ⟨og, oo2 + q, none⟩ = some (.slice ya yn yc) := by simpa [tS, sv] using hcy
         have hyr := (HI.out.own q _ y hu hy).row
         have hxr := HXN.out.row
         have HM := Lib.hid (fun wx (hg : Grows W wx) => show (wx.cell? ⟨og, oo2 + q, none⟩ = some (.slice ya yn yc)) ∧ Grows W wx from ⟨(hg.cell (World.block_lt_of_cell? W _ hcy2)).trans hcy2, hg⟩)
         obtain ⟨r, hr⟩ : ∃ r, ltG xs y = r := ⟨_, rfl⟩
         have HBf := Lib.hid (fun wx (hg : Grows W wx) => (show Calls Tryz.prog 45 #[.slice ga M gc, .slice ya yn yc] wx (fun e w' => e = .returned (.bool r) ∧ Grows wx w') from hr ▸ before_any _ _ xs y wx (hxr.later hg) (hyr.later hg)))
         have HGX := Lib.hid hgw.out
         have b1 : ((q + 1 : Nat) : Int) > 0 := by omega
         have z8 : decide ((0 : Int) < ((q + 1 : Nat) : Int)) = true := decide_eq_true (by omega)
         have z9 : 0 < q + 1 := by omega
         have e1 : ((q + 1 : Nat) : Int) - 1 = (q : Int) := by omega
         have b6 : (q : Int) < N := by omega
         have b7 : (0 : Int) ≤ q := by omega
         have lw : IntKind.i64.wrap (q : Int) = (q : Int) := by rw [IntKind.wrap_i64]; omega
         cases r
         ·have HE := Lib.hid (show insL gs xs = gs.take (q + 1) ++ (xs :: gs.drop (q + 1)) by
           have := HT.out
           rw [G.posG_no hy hr] at this
           unfold insL G.insG; rw [← HI.out.len, HNN.out, ← this])
          clear HT hr hy hu hcy hcy2 hyr hxr hoc hgw
          obtain ⟨p, hp2⟩ : ∃ p, q + 1 = p := ⟨_, rfl⟩
          rw [hp2] at HE hp b1 e1 z8 z9 ⊢
          clear hp2 h0
          have hcw := (HM.out W3 HGX.out).1
          go_wp2_with fail
          refine (HBf.out W3 HGX.out).mono ?_
          rintro e w6 ⟨rfl, g6⟩
          have G1 := HGX.out.then g6
          clear hcw g6
          go_wp2_with fail
          go_meet
          exact ⟨p, rfl, hp, HE, Lib.hid G1⟩
         ·have HT2 := Lib.hid (show G.posG ltG gs xs q = G.posG ltG gs xs N by rw [← HT.out, G.posG_yes hy hr])
          clear HT hr hy hu hcy hcy2 hyr hxr hoc hgw
          obtain ⟨p, hp2⟩ : ∃ p, q + 1 = p := ⟨_, rfl⟩
          have hpm : q < p := by omega
          rw [hp2] at hp b1 e1 z8 z9 ⊢
          clear hp2 h0
          have hcw := (HM.out W3 HGX.out).1
          go_wp2_with fail
          refine (HBf.out W3 HGX.out).mono ?_
          rintro e w6 ⟨rfl, g6⟩
          have G1 := HGX.out.then g6
          clear hcw g6
          go_wp2_with fail
          go_roundw
          case rel => exact ⟨q, by omega, by go_num, HT2, Lib.hid G1⟩
          case measure => simp [RowKit.intOf]; omega
      case rest =>
       obtain ⟨P, rfl, hPN, HE, HGZ⟩ := hcut
       rename World => W2
       have HOw2 := Lib.hid (HOw.out.later HGZ.out)
       have HI2 := Lib.hid (HI.out.later HGZ.out)
       have HXN2 := Lib.hid ((HXN.out.later HGZ.out).base (show w1.heap.size ≤ WR.heap.size from HO0.out))
       have HLOW2 := Lib.hid (HLOW.out.then HGZ.out)
       clear HGZ HOw HI HXN HLOW
       have HOw3 := Lib.hid (HOw2.out.later (w' := W2.alloc (.cells #[.slice none 0 0] 22)) ((Below.refl _ _).alloc (Nat.le_refl _) _))
       have HR1 := Lib.hid (show G.Row tS (W2.alloc (.cells #[.slice none 0 0] 22)) (.slice (some ⟨W2.heap.size, 0, none⟩) 1 1) [(none, 0, 0)] from G.row_one W2 22 ((none, 0, 0) : SV) _ rfl)
       have HI3 := Lib.hid (HI2.out.later (w' := W2.alloc (.cells #[.slice none 0 0] 22)) ((Below.refl _ _).alloc (Nat.le_refl _) _))
       have HXN3 := Lib.hid (HXN2.out.later (w' := W2.alloc (.cells #[.slice none 0 0] 22)) ((Below.refl _ _).alloc (Nat.le_refl _) _))
       have HL3 := Lib.hid (HLOW2.out.then (c := W2.alloc (.cells #[.slice none 0 0] 22)) ((Below.refl _ _).alloc (Nat.le_refl _) _))
       go_wp2_with (at_builtin; refine G.wpList_append tS_ok rfl _ _ rfl rfl HOw3.out rfl HR1.out (by rw [HNN.out, List.length_singleton]; omega) HL3.out.size ?_)
       intro v' W4 hO4 hG4 _
       have HI4 := Lib.hid (HI3.out.grown HOw3.out hG4)
       have HXN4 := Lib.hid (ownN_grown HXN3.out HOw3.out hG4)
       have HL4 := Lib.hid (G.grow_append HL3.out HOw3.out (Nat.le_refl _) hG4)
       clear HI2 HI3 HXN2 HXN3 HL3 HR1 HOw2 HOw3 hG4 HLOW2
       obtain ⟨og, cap, cur, rfl, hge, hcur, hm1, hm2, hsz, htk⟩ : ∃ g cap cur, v' = .slice (some ⟨g, 0, none⟩) (N + 1) cap ∧ w1.heap.size ≤ g ∧ W4.heap[g]? = some (.cells cur 22 (0, 0)) ∧ N + 1 ≤ cap ∧ cap ≤ maxLen ∧ cur.size = cap ∧ cur.toList.take (N + 1) = us.map sv ++ [.slice none 0 0] := by
        rcases hO4.2 with ⟨-, h2⟩ | ⟨g, cap, cur, h1, h2, h3, h4, h5, h6, h7⟩
        ·simp at h2
        ·rw [List.length_append, List.length_singleton, HNN.out] at h1 h4 h7
         refine ⟨g, cap, cur, h1, h2, h3, h4, h5, by have h6 : cur.size = cap * 1 := h6; omega, ?_⟩
         have h7 : cur.toList.take ((N + 1) * 1) = (us ++ [(none, 0, 0)]).flatMap tS.enc := h7
         rw [Nat.mul_one, flatS, List.map_append] at h7
         exact h7
       obtain ⟨L4, hL4⟩ : ∃ L4, cur.toList = L4 := ⟨_, rfl⟩
       obtain rfl : cur = L4.toArray := by rw [← hL4]
       clear hL4 hO4
       rw [List.size_toArray] at hsz
       simp only [List.toList_toArray] at htk
       have HTK := Lib.hid htk
       have HCUR := Lib.hid hcur
       have HMX := Lib.hid hm2
       have hcM : (cap : Int) ≤ 9223372036854775807 := by unfold maxLen at hm2; omega
       clear htk hcur hm2
       obtain ⟨P1, hP1⟩ : ∃ P1 : Nat, P1 = P + 1 := ⟨_, rfl⟩
       have lw : IntKind.i64.wrap ((P : Int) + 1) = (P1 : Int) := by rw [IntKind.wrap_i64]; omega
       obtain ⟨o1, ho1', ho2'⟩ : ∃ oo : Nat, (cap = P1 → oo = 0) ∧ (¬ cap = P1 → oo = P1) := ⟨if cap = P1 then 0 else P1, fun h => if_pos h, fun h => if_neg h⟩
       obtain ⟨o2, ho3, ho4⟩ : ∃ oo : Nat, (cap = P → oo = 0) ∧ (¬ cap = P → oo = P) := ⟨if cap = P then 0 else P, fun h => if_pos h, fun h => if_neg h⟩
       have ho5 : o2 = P := ho4 (by omega)
       obtain ⟨N1, hN1⟩ : ∃ N1 : Nat, N1 = N + 1 := ⟨_, rfl⟩
       rw [← hN1] at hm1 ⊢
       have c1 : (P1 : Int) ≤ cap := by omega
       have c2 : (P : Int) ≤ cap := by omega
       have c3 : (P1 : Int) ≤ N1 := by omega
       have c4 : (P : Int) ≤ N1 := by omega
       have HP1 := Lib.hid hP1
       have HN1 := Lib.hid hN1
       have HO5 := Lib.hid ho5
       have HPC := Lib.hid (show ¬ cap = P by omega)
       clear hP1 hN1 ho5
       go_upto_region 17 with fail
       refine wp_region_held_drew (S := (fun _ => True)) (by kernel_rfl) (trivial) (fun hHeld => ?_)
       have G0 : Grows W4 W4.drew := (Below.refl _ W4).drew
       generalize W4.drew = w5 at *
       refine tbA [0, 1, 2, 3, 4, 5] ?_
       refine tkA (.slice (some ⟨og, 0, none⟩) N1 cap) (oi := ⟨some 60, .move (.tmp 4), 34, _, _, none⟩) ?_
       simp only [Act.put, pA, pB, pC]
       refine tkA (.int .i64 P) (oi := ⟨some 61, .move (.tmp 8), 3, _, _, none⟩) ?_
       simp only [Act.put, pA, pB, pC]
       refine tkA (.int .i64 P1) (oi := ⟨some 62, .binOp .add 3 (.tmp 61) (.const (.int .i64 1)) 3, 3, _, _, none⟩) ?_
       simp only [Act.put, pA, pB, pC]
       refine wpAnyT_take (oi := ⟨some 63, .slice 34 (.tmp 60) (some (.tmp 62)) none none, 34, _, _, none⟩) (v := .slice (some ⟨og, o1, none⟩) (N1 - P1) (cap - P1)) rfl (fun _ _ _ h => h) (by rfl) (by assumption) (fun wS hSw => ?_) ?_
       ·(try dsimp only at hSw); go_simp; try (first | (intro h; exfalso; omega) | (split <;> rename_i hz <;> first | rw [ho1' hz] | rw [ho2' hz] | rw [ho3 hz] | rw [ho4 hz]))
       simp only [Act.put, pA, pB, pC]
       refine tkA (.slice (some ⟨og, 0, none⟩) N1 cap) (oi := ⟨some 64, .move (.tmp 4), 34, _, _, none⟩) ?_
       simp only [Act.put, pA, pB, pC]
       refine tkA (.int .i64 P) (oi := ⟨some 65, .move (.tmp 8), 3, _, _, none⟩) ?_
       simp only [Act.put, pA, pB, pC]
       refine teA ?_
       refine tlA #[true, true, true, true, true, true, false, false] ?_
       refine tbA [6] ?_
       refine wpAnyT_take (oi := ⟨some 66, .slice 34 (.tmp 64) (some (.tmp 65)) none none, 34, _, _, none⟩) (v := .slice (some ⟨og, o2, none⟩) (N1 - P) (cap - P)) rfl (fun _ _ _ h => h) (by rfl) (by assumption) (fun wS hSw => ?_) ?_
       ·(try dsimp only at hSw); go_simp; try (first | (intro h; exfalso; omega) | (split <;> rename_i hz <;> first | rw [ho1' hz] | rw [ho2' hz] | rw [ho3 hz] | rw [ho4 hz]))
       simp only [Act.put, pA, pB, pC]
       refine teA ?_
       refine tlA #[true, true, true, true, true, true, true, false] ?_
       refine trA [7] ?_
       refine AllReadyH.cons (o := ⟨some 67, .call { callee := .builtin .copy, args := #[.tmp 63, .tmp 66], argTypes := #[34, 34] }, 3, _, _, none⟩) rfl (fun K hK => ?_) AllReadyH.nil
       have hcs : ((us.map sv).drop P).length = N - P := by rw [List.length_drop, List.length_map, HNN.out]
       have hcell : ∀ (j : Nat) (v : Value), ((us.map sv).drop P)[j]? = some v → w5.cell? ⟨og, P + j, none⟩ = some v := by
        intro j v hv
        rw [List.getElem?_drop] at hv
        have hlt := (List.getElem?_eq_some_iff.1 hv).1
        rw [List.length_map, HNN.out] at hlt
        rw [cell_of_row w5 og (P + j) L4.toArray 22 (0, 0) (heap_grows G0 HCUR.out), List.getElem?_toArray]
        have h2 : (L4.take (N + 1))[P + j]? = some v := by rw [HTK.out, List.getElem?_append_left (by rw [List.length_map, HNN.out]; exact hlt)]; exact hv
        rw [List.getElem?_take, if_pos (by omega)] at h2
        exact h2
       refine step_copy_w rfl _ _ rfl _ _ _ _ _ _ rfl rfl og P1 L4 (heap_grows G0 HCUR.out) ((us.map sv).drop P) (by rw [hcs]; have := HP1.out; have := HN1.out; show _ = min _ _; omega) (fun hp => ?_) (by rw [hcs]; have := HP1.out; have := HN1.out; omega) ?_ ?_
       ·rw [hcs] at hp
        refine ⟨by rw [ho2' (by have := HP1.out; have := HN1.out; omega)], ⟨og, o2, none⟩, rfl, fun j v hv => ?_⟩
        rw [HO5.out, Go.WideShapes.add_plain]; exact hcell j v hv
       ·intro v hv
        have hv := List.mem_of_mem_drop hv
        obtain ⟨u, -, rfl⟩ := List.mem_map.1 hv
        rfl
       intro w6 HCW
       clear hHeld
       have HL5 := Lib.hid (HL4.out.then G0)
       have HI5 := Lib.hid (HI4.out.later G0)
       have HXN5 := Lib.hid (HXN4.out.later G0)
       have HCUR5 := Lib.hid (heap_grows G0 HCUR.out)
       have HFIN := Lib.hid (OutS.insert HL5.out HCUR5.out hge (show N + 1 ≤ cap by have := HN1.out; omega) HMX.out hsz HTK.out HI5.out (by rw [HNN.out]) (by rw [HNN.out]; exact hPN) (u := (ga, M, gc)) HXN5.out (HP1.out ▸ HCW.out))
       have k0 : (w6.cell? ⟨og, P, none⟩).isSome = true := by
        rw [cell_of_row w6 og P _ 22 (0, 0) HCW.out.here]
        have : P < (splice L4 P1 ((us.map sv).drop P)).length := by have h1 := HP1.out; have h2 := HN1.out; rw [length_splice _ _ _ (by rw [hcs]; omega)]; omega
        simp [List.getElem?_eq_getElem this]
       have f0 := frozen_of_row w6 og P _ 22 HCW.out.here
       refine hK.out _ _ trivial (fun _ => ?_)
       clear hK K
       try simp only [pA, pB, pC]
       refine tlA #[true, true, true, true, true, true, true, true] ?_
       refine wpAnyH_done (by kernel_rfl) ?_ _
       obtain ⟨cx, k1⟩ := Option.isSome_iff_exists.1 k0
       have HF := Lib.hid (show OutS w1 (w6.setCell ⟨og, P, none⟩ (.slice ga M gc)) (.slice (some ⟨og, 0, none⟩) N1 cap) (sortG (preG ws (i + 1))) by rw [HP.out, HE.out, HN1.out]; exact HFIN.out)
       clear HFIN HE HP k0 HCW
       have c5 : P < N1 := by have := HN1.out; omega
       have c6 : (P : Int) < N1 := by omega
       have c7 : (0 : Int) ≤ P := by omega
       go_wp2_with fail
       go_roundw
       case rel => exact ⟨i + 1, by omega, by go_num, HF⟩
       case measure => simp [RowKit.intOf]; omega
   ·have hne : (li == (i : Int)) = false := by
     rw [beq_eq_false_iff_ne]
     exact fun e => hr ((HL.out.own hiw hli).1 e)
    have HP := Lib.hid (preG_no hr)
    clear hr hli hlc hiw
    go_wp2_with fail
    go_roundw
    case rel => exact ⟨i + 1, by omega, by go_num, Lib.hid (by rw [HP.out]; exact HO.out)⟩
    case measure => simp [RowKit.intOf]; omega
  ·obtain rfl : i = un := by omega
   have HE := HO.out.row
   rw [← HN.out, preG_all] at HE
   replace HE := Lib.hid HE
   have HB := Lib.hid (show Below w.heap.size w WR from HG1.out.then HO.out.low)
   go_wp2_with fail
   go_ret
   exact ⟨_, rfl, HE.out, HB.out⟩

end Go.Proofs.YtoaldbjcpfkcjaaGreat
