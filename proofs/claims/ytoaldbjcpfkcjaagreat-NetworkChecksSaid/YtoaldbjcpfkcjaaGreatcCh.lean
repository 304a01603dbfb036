/- Ways with a change. -/
import Derived.Test.YtoaldbjcpfkcjaaGreatcOg
import Derived.Lib.AppendZerosOnto
import Derived.Laws.CopyOwn
import Derived.Test.YtoaldbjcpfkcjaaGreatcFrameW
import Derived.Test.YtoaldbjcpfkcjaaGreatcFw
import Derived.Test.YtoaldbjcpfkcjaaGreatcWx
import Derived.Test.YtoaldbjcpfkcjaaGreatcMd
namespace Go.Proofs.YtoaldbjcpfkcjaaGreat.G
open Go.RowKit Go.Lib

/-- A way of zeros. -/
def zY : Yw := ⟨(none, 0, 0), ⟨0, [], 0, { data := #[] }, { data := #[] }, false, 0, 0⟩⟩
theorem zeroCells_flat (k : Nat) : (Builtin.zeroCells (Value.agg #[.int .i64 0, .slice none 0 0, .int .i64 0, .string { data := #[] }, .string { data := #[] }, .bool false, .int .i64 0, .int .i64 0]).cells k).toList = (List.replicate k zY).flatMap tY.enc := by
 apply List.ext_getElem?
 intro i
 have hl : (Builtin.zeroCells (Value.agg #[.int .i64 0, .slice none 0 0, .int .i64 0, .string { data := #[] }, .string { data := #[] }, .bool false, .int .i64 0, .int .i64 0]).cells k).size = k * 8 := by rw [size_zeroCells]; rfl
 have hr : ((List.replicate k zY).flatMap tY.enc).length = k * 8 := by rw [flat_length tY_ok, List.length_replicate]; rfl
 by_cases hi : i < k * 8
 ·have hd : i / 8 < k := by omega
  have hm : i % 8 < 8 := Nat.mod_lt _ (by decide)
  have e : i = i / 8 * 8 + i % 8 := by omega
  have hz : (List.replicate k zY)[i / 8]? = some zY := by rw [List.getElem?_replicate, if_pos hd]
  obtain ⟨u, hu⟩ : ∃ u, (tY.enc zY)[i % 8]? = some u := ⟨_, List.getElem?_eq_getElem (show i % 8 < (tY.enc zY).length from hm)⟩
  have h2 := flat_at tY_ok hz hu
  rw [show tY.k = 8 from rfl, ← e] at h2
  rw [h2, Array.getElem?_toList, Array.getElem?_eq_getElem (by omega)]
  unfold Builtin.zeroCells
  simp only [Array.getElem_map, Array.getElem_range]
  have hs : (Value.agg #[.int .i64 0, .slice none 0 0, .int .i64 0, .string { data := #[] }, .string { data := #[] }, .bool false, .int .i64 0, .int .i64 0]).cells.size = 8 := rfl
  rw [hs]
  generalize i % 8 = r at *
  match r, hm, hu with
  | 0, _, hu => cases hu; rfl
  | 1, _, hu => cases hu; rfl
  | 2, _, hu => cases hu; rfl
  | 3, _, hu => cases hu; rfl
  | 4, _, hu => cases hu; rfl
  | 5, _, hu => cases hu; rfl
  | 6, _, hu => cases hu; rfl
  | 7, _, hu => cases hu; rfl
 ·rw [Array.getElem?_toList, Array.getElem?_eq_none (by omega), List.getElem?_eq_none (by rw [hr]; omega)]
theorem run_append_zeros {w : World} {b : Nat} {v : Value} {ps : List Yw} {k : Nat} (ty : TypeId) (h : Own tY b w v ps) (h0 : 0 < ps.length) (hk : 0 < k) (hn : ps.length + k ≤ 2000000) (hb : b ≤ w.heap.size) :
  ∃ v' w', (Builtin.append_ #[23, 3] ty #[v, .int .i64 k]).run Tryz.prog w = .ok v' w' ∧ Own tY b w' v' (ps ++ List.replicate k zY) ∧ w.grownBy w' v.ownBlock := by
 obtain ⟨i, hi, hz0, hz1, hz2⟩ := info_parts tY_ok.hinfo
 have hi : Tryz.prog.info? 44 = some i := hi
 have hz1 : i.size = 8 := hz1
 have hz2 : i.bytes = 96 := hz2
 have htn : Tryz.prog.underlying 3 = some (.int .i64) := Tryz.underlying3
 have ht : Tryz.prog.underlying 23 = some (.slice 44) := Tryz.underlying23
 have hf : (ps ++ List.replicate k zY).flatMap tY.enc = ps.flatMap tY.enc ++ (List.replicate k zY).flatMap tY.enc := List.flatMap_append
 have hfl : ((List.replicate k zY).flatMap tY.enc).length = k * 8 := by rw [flat_length tY_ok, List.length_replicate]; rfl
 have hpl : (ps.flatMap tY.enc).length = ps.length * 8 := flat_length tY_ok ps
 have hz0' := zeroCells_flat k
 rcases h.2 with ⟨-, h2⟩ | ⟨g, cap, cur, rfl, hbg, hg, hnc, hcm, hcs, htake⟩
 ·omega
 ·have hcs : cur.size = cap * 8 := hcs
  have htake : cur.toList.take (ps.length * 8) = ps.flatMap tY.enc := htake
  by_cases hroom : ps.length + k ≤ cap
  ·have hst := run_storeCells_at Tryz.prog g (ps.length * 8) 44 ((List.replicate k zY).flatMap tY.enc) 0 cur w hg (by rw [hfl, hcs]; omega) (fun u hu => by
    obtain ⟨p, -, hp⟩ := List.mem_flatMap.1 hu
    exact tY_ok.h1 p u hp)
   simp only [Nat.add_zero] at hst
   obtain ⟨L, hL⟩ : ∃ L, List.take (ps.length * 8) cur.toList ++ List.flatMap tY.enc (List.replicate k zY) ++ List.drop (ps.length * 8 + (List.flatMap tY.enc (List.replicate k zY)).length) cur.toList = L := ⟨_, rfl⟩
   rw [hL] at hst
   refine ⟨.slice (some ⟨g, 0, none⟩) (ps.length + k) cap, w.setRow g L.toArray, ?_, ⟨?_, .inr ⟨g, cap, L.toArray, ?_, hbg, setRow_heap w g cur _ 44 _ hg, ?_, hcm, ?_, ?_⟩⟩, ⟨rfl, rfl, rfl, by simp [World.setRow], fun q hq hne => setRow_other w g q _ (fun e => hne (by simp [Value.ownBlock, e]))⟩⟩
   ·have hk0 : k ≠ 0 := by omega
    have hw : IntKind.i64.wrap (k : Int) = k := by rw [IntKind.wrap_i64]; omega
    have hneg : ¬ ((k : Int) < 0) := by omega
    have hns : ¬ (k * 8 = 0) := by omega
    have h48i : ¬ (281474976710656 < (k : Int) * (i.bytes : Int)) := by rw [hz2]; omega
    have hzs : (Builtin.zeroCells (Value.agg #[.int .i64 0, .slice none 0 0, .int .i64 0, .string { data := #[] }, .string { data := #[] }, .bool false, .int .i64 0, .int .i64 0]).cells k).toList = (List.replicate k zY).flatMap tY.enc := hz0'
    have hz0'' : i.zero = some (Value.agg #[.int .i64 0, .slice none 0 0, .int .i64 0, .string { data := #[] }, .string { data := #[] }, .bool false, .int .i64 0, .int .i64 0]) := hz0
    simp [Builtin.append_, run_underlying ht, run_underlying htn, sizeOf, typeInfo, zeroValue, hi, hz0'', hz1, asInt, asIntOf, hw, hneg, hns, h48i, hroom, Addr.add_lit, hzs, hst]
   ·rw [hf, List.length_append, hfl, hpl, List.length_append, List.length_replicate]; show _ = _ * 8; omega
   ·rw [List.length_append, List.length_replicate]
   ·rw [List.length_append, List.length_replicate]; exact hroom
   ·show _ = cap * 8
    rw [← hL]
    simp only [List.size_toArray, List.length_append, List.length_take, List.length_drop, Array.length_toList, hfl, hcs]
    omega
   ·rw [hf, List.length_append, List.length_replicate, List.toList_toArray, ← hL, htake]
    show List.take ((ps.length + k) * 8) _ = _
    have e : (ps.length + k) * 8 = (ps.flatMap tY.enc ++ (List.replicate k zY).flatMap tY.enc).length := by rw [List.length_append, hfl, hpl]; omega
    rw [e]
    exact List.take_left
  ·have hold : (Builtin.firstCells i.size ps.length (.slice (some ⟨g, 0, none⟩) ps.length cap)).run Tryz.prog w.drew = .ok (ps.flatMap tY.enc).toArray w.drew := by
    refine run_firstCells_some (P := Tryz.prog) w.drew i.size ps.length ⟨g, 0, none⟩ ps.length cap (ps.flatMap tY.enc) (by rw [hpl, hz1]) (fun j u hu => ?_)
    have := World.ownsRow.cells h (g := g) rfl j u hu
    exact this
   have hr := run_append_grow_zeros (P := Tryz.prog) w 23 3 ty 44 i _ .i64 .i64 ht htn hi hz0 (some ⟨g, 0, none⟩) ps.length cap (ps.flatMap tY.enc) hold k hk (by omega) (by omega) (by omega) (by rw [hz2]; omega) (by rw [hz2]; exact growslice_fits (by omega) (by omega))
   obtain ⟨CU, hCU⟩ : ∃ CU, (List.flatMap tY.enc ps).toArray ++ Builtin.zeroCells tY.z.cells k ++ Builtin.zeroCells tY.z.cells (grownCap w (ps.length + k) cap 44 - (ps.length + k)) = CU := ⟨_, rfl⟩
   rw [hCU] at hr
   refine ⟨_, _, hr, ⟨?_, .inr ⟨w.heap.size, grownCap w (ps.length + k) cap 44, CU, ?_, hb, heap_alloc_new w.drew (.cells CU 44), ?_, ?_, ?_, ?_⟩⟩, ⟨rfl, rfl, rfl, by simp, fun q hq _ => heap_alloc_old w.drew _ hq⟩⟩
   ·rw [hf, List.length_append, hfl, hpl, List.length_append, List.length_replicate]; show _ = _ * 8; omega
   ·rw [List.length_append, List.length_replicate]
   ·rw [List.length_append, List.length_replicate]; exact grownCap_ge w _ cap 44
   ·exact grownCap_le_maxLen w _ cap 44 (by unfold maxLen; omega)
   ·show _ = _ * 8
    have hge := grownCap_ge w (ps.length + k) cap 44
    rw [← hCU]
    simp only [Array.size_append, List.size_toArray, size_zeroCells, hpl]
    show ps.length * 8 + k * 8 + _ * 8 = _
    omega
   ·rw [hf, List.length_append, List.length_replicate]
    show List.take ((ps.length + k) * 8) _ = _
    have e : (ps.length + k) * 8 = (ps.flatMap tY.enc ++ (List.replicate k zY).flatMap tY.enc).length := by rw [List.length_append, hfl, hpl]; omega
    rw [e, ← hCU]
    simp only [Array.toList_append]
    rw [show (Builtin.zeroCells (Value.cells tY.z) k).toList = (List.replicate k zY).flatMap tY.enc from hz0']
    exact List.take_left
theorem flat_set {ps : List Yw} {j f : Nat} {p q : Yw} {x : Value} (hj : ps[j]? = some p) (he : tY.enc q = (tY.enc p).set f x) (hf : f < 8) : (ps.flatMap tY.enc).set (j * 8 + f) x = (ps.set j q).flatMap tY.enc := by
 induction ps generalizing j with
 | nil => simp at hj
 | cons a ps ih =>
  have hl : (tY.enc a).length = 8 := rfl
  cases j with
  | zero =>
   simp only [List.getElem?_cons_zero, Option.some.injEq] at hj
   subst hj
   rw [List.set_cons_zero, List.flatMap_cons, List.flatMap_cons, he, Nat.zero_mul, Nat.zero_add, List.set_append_left _ _ (by rw [hl]; exact hf)]
  | succ j =>
   rw [List.getElem?_cons_succ] at hj
   rw [List.set_cons_succ, List.flatMap_cons, List.flatMap_cons, ← ih hj, List.set_append_right _ _ (by rw [hl]; omega), hl]
   congr 2
   omega
end Go.Proofs.YtoaldbjcpfkcjaaGreat.G

namespace Go.Proofs.YtoaldbjcpfkcjaaGreat
open Go.RowKit Go.Lib

open G in
theorem own_has {w0 W : World} {bs : List (Nat × List Value)} {b g n c : Nat} {ps : List Yw} (hC : Has w0 bs W) (ho : G.Own tY b W (.slice (some ⟨g, 0, none⟩) n c) ps) (hb : ∀ p ∈ bs, p.1 < b) (hw : w0.heap.size ≤ b) (hn : 0 < ps.length) :
  ∃ rest, Has w0 ((g, ps.flatMap tY.enc ++ rest) :: bs) W ∧ n = ps.length ∧ ps.length ≤ c ∧ (c : Int) ≤ 9223372036854775807 := by
 rcases ho.2 with ⟨-, h2⟩ | ⟨g', cap, cur, e, h2, h3, h4, h5, h6, h7⟩
 ·omega
 ·injection e with e1 e2 e3
  injection e1 with e1
  injection e1 with e1
  subst e1 e2 e3
  refine ⟨cur.toList.drop (ps.length * 8), ?_, rfl, h4, by unfold maxLen at h5; omega⟩
  have h7 : cur.toList.take (ps.length * 8) = ps.flatMap tY.enc := h7
  rw [← h7, List.take_append_drop]
  have hlt : g < W.heap.size := by
   rcases Nat.lt_or_ge g W.heap.size with q | q
   ·exact q
   ·rw [Array.getElem?_eq_none q] at h3; cases h3
  refine ⟨fun p hp i v hv => ?_, fun p hp => ?_, fun p hp => ?_, List.pairwise_cons.2 ⟨fun q hq => by have := hb q hq; simp only; omega, hC.nd⟩, hC.low⟩ <;> rcases List.mem_cons.1 hp with rfl | hp
  ·exact ⟨by rw [cell_of_row W g i cur _ (0, 0) h3]; simpa using hv, frozen_of_row W g i cur _ h3⟩
  ·exact hC.c p hp i v hv
  ·exact hlt
  ·exact hC.lt p hp
  ·simp only; omega
  ·exact hC.ge p hp
open G in
/-- What comes back: a row of the call's own. -/
theorem row_of_has {w0 W : World} {bs : List (Nat × List Value)} {g c : Nat} {ps : List Yw} {rest : List Value} (h : Has w0 ((g, ps.flatMap tY.enc ++ rest) :: bs) W) (h1 : ps.length ≤ c) (h2 : (c : Int) ≤ 9223372036854775807) (hp : ∀ p ∈ ps, RowP W p.v p.a.ln) :
  RowW W (.slice (some ⟨g, 0, none⟩) ps.length c) (ps.map Yw.a) :=
 RowY.row ⟨ps, rfl, G.row_cells (fun i v hv => h.c _ (.head _) i v (by rw [List.getElem?_append_left (List.getElem?_eq_some_iff.1 hv).1]; exact hv)) h1 h2, hp⟩
open G in
/-- One way is another one. -/
theorem row_changed {w0 w W : World} {bs : List (Nat × List Value)} {g c j f : Nat} {ps : List Yw} {p q : Yw} {x : Value} {rest : List Value} (h : Has w0 ((g, ps.flatMap tY.enc ++ rest) :: bs) W) (hj : ps[j]? = some p) (he : tY.enc q = (tY.enc p).set f x) (hf : f < 8) (h1 : ps.length ≤ c) (h2 : (c : Int) ≤ 9223372036854775807)
  (hp : ∀ p ∈ ps, RowP w p.v p.a.ln ∧ InW p.a) (hq : RowP (W.setCell ⟨g, j * 8 + f, none⟩ x) q.v q.a.ln ∧ InW q.a) (hw : w.heap.size ≤ w0.heap.size) (hG : Grows w W) (h100 : ps.length ≤ 100) :
  ∃ us, RowW (W.setCell ⟨g, j * 8 + f, none⟩ x) (.slice (some ⟨g, 0, none⟩) ps.length c) us ∧ us.length ≤ 100 ∧ (∀ t ∈ us, InW t) ∧ Grows w (W.setCell ⟨g, j * 8 + f, none⟩ x) := by
 have hjl := (List.getElem?_eq_some_iff.1 hj).1
 have hlen : (ps.flatMap tY.enc).length = ps.length * 8 := G.flat_length tY_ok ps
 have hX := h.set (j * 8 + f) (by rw [List.length_append, hlen]; omega) x
 rw [List.set_append_left _ _ (by rw [hlen]; omega), G.flat_set hj he hf] at hX
 have hg : Grows w (W.setCell ⟨g, j * 8 + f, none⟩ x) := hG.setCell (Nat.le_trans hw (h.ge _ (.head _))) _
 refine ⟨(ps.set j q).map Yw.a, ?_, by rw [List.length_map, List.length_set]; exact h100, fun t ht => ?_, hg⟩
 ·have := row_of_has (c := c) hX (by rw [List.length_set]; exact h1) h2 (fun r hr => by
   rcases List.mem_or_eq_of_mem_set hr with hr | rfl
   ·exact (hp r hr).1.later hg
   ·exact hq.1)
  rw [List.length_set] at this
  exact this
 ·obtain ⟨r, hr, rfl⟩ := List.mem_map.1 ht
  rcases List.mem_or_eq_of_mem_set hr with hr | rfl
  ·exact (hp r hr).2
  ·exact hq.2
open G in
theorem wpList_append_zeros {ops : Array Oper} {rest : List Oper} {o : Oper} {a : Act} {w : World} {Q : Exit → Act → World → Prop} (hgd : o.guard = none) (s x : Operand)
  (ho : o.op = .call { callee := .builtin .append, args := #[s, x], argTypes := #[23, 3] }) {b : Nat} {v : Value} {ps : List Yw} {k : Nat} (hs : a.eval s = v) (h : G.Own tY b w v ps)
  (hx : a.eval x = .int .i64 k) (h0 : 0 < ps.length) (hk : 0 < k) (hn : ps.length + k ≤ 2000000) (hb : b ≤ w.heap.size)
  (hK : ∀ v' w', G.Own tY b w' v' (ps ++ List.replicate k zY) → w.grownBy w' v.ownBlock → wpList Tryz.prog ops Q rest (a.put o.dst v') w') : wpList Tryz.prog ops Q (o :: rest) a w := by
 refine wpList_plain hgd fun K hK' => ?_
 obtain ⟨v', w', e1, e2, e3⟩ := run_append_zeros o.type h h0 hk hn hb
 unfold Oper.wp execOp
 simp only [ho, resolve, invoke, builtin, Sem.run_bind, Sem.run_pure, Result.andThen_ok, List.map_toArray, List.map_cons, List.map_nil, hs, hx, e1]
 exact hK' _ _ (hK v' w' e2 e3)
theorem i64_tmod (n k : Int) (h0 : 0 < k) (h1 : k ≤ 1000) : I64 (n.tmod k) := by
 have a := Int.tmod_lt_of_pos n h0
 have c := Int.natAbs_tmod n k
 have d := Nat.mod_lt n.natAbs (show 0 < k.natAbs by omega)
 unfold I64
 omega
open G in
set_option linter.unusedSimpArgs false in
set_option maxRecDepth 100000 in
set_option maxHeartbeats 8000000 in
theorem changed_any (v u : Value) (ws : List Wy) (w : World) (RW : RowW w v ws) (hin : ∀ t ∈ ws, InW t) (h6 : ws.length ≤ 10) (hll : ∀ t ∈ ws, t.ln.length ≤ 1000) (hu : ∃ ua un uc, u = .slice ua un uc) (a bb : Nat) (ha : a < 256) (n : Int) (hn : I64 n) :
  Calls Tryz.prog 11 #[v, .agg #[u, .int .u8 a, .int .u8 bb, .int .i64 n]] w fun e w' => ∃ o us, e = .returned o ∧ RowW w' o us ∧ us.length ≤ 100 ∧ (∀ t ∈ us, InW t) ∧ Below w.heap.size w w' := by
 obtain ⟨ua, un, uc, rfl⟩ := hu
 obtain ⟨ps, rfl, hrow, hps⟩ := rowY_of RW
 have HP := Lib.hid (fun p (hp : p ∈ ps) => show RowP w p.v p.a.ln ∧ InW p.a from ⟨hps p hp, hin p.a (List.mem_map.2 ⟨p, hp, rfl⟩)⟩)
 have HLL := Lib.hid (fun p (hp : p ∈ ps) => hll p.a (List.mem_map.2 ⟨p, hp, rfl⟩))
 rw [List.length_map] at h6
 obtain ⟨va, vn, vc, rfl, hvn, hv1, hv2, hrow⟩ := hrow.form
 have HN := Lib.hid hn
 clear hps hin hll hn RW
 have C0 := (Has.nil (Below.refl w.heap.size w)).push [.slice ua un uc, .int .u8 a, .int .u8 bb, .int .i64 n] 25
 have G0 : Grows w (w.alloc (.cells #[.slice ua un uc, .int .u8 a, .int .u8 bb, .int .i64 n] 25)) := (Below.refl _ w).alloc (Nat.le_refl _) _
 go_enter Tryz.func11, Tryz.ntmps11
 go_upto_region 1 with fail
 change Has w [(w.heap.size, [.slice ua un uc, .int .u8 a, .int .u8 bb, .int .i64 n])] (w.alloc (.cells #[.slice ua un uc, .int .u8 a, .int .u8 bb, .int .i64 n] 25)) at C0
 generalize w.alloc (.cells #[.slice ua un uc, .int .u8 a, .int .u8 bb, .int .i64 n] 25) = w1 at *
 obtain ⟨D, hD⟩ : ∃ D, w.heap.size = D := ⟨_, rfl⟩
 have HD := Lib.hid hD
 rw [hD] at C0
 simp only [hD]
 clear hD
 have hDw : D < w1.heap.size := C0.lt0
 have C1 := C0.later ((Below.refl _ w1).alloc (Nat.le_refl _) (.cells #[] 44))
 have G1 := G0.then ((Below.refl _ w1).alloc (Nat.le_refl _) (.cells #[] 44))
 have HOA := Lib.hid (G.own_empty (T := tY) (b := w1.heap.size) w1 44 (Nat.le_refl _))
 have HL := Lib.hid (hrow.later G1)
 clear hrow
 go_wp2_with (at_builtin; refine G.wpList_append tY_ok rfl _ _ rfl rfl HOA.out rfl HL.out (by simp only [List.length_nil]; omega) (by rw [size_alloc]; omega) ?_)
 intro v3 w3 hO3 hG3 _
 have C3 : Has w [(D, [.slice ua un uc, .int .u8 a, .int .u8 bb, .int .i64 n])] w3 := C1.grownB (b := w1.heap.size) (fun k e => (HOA.out.lt e).1) (by intro p hp; rw [List.mem_singleton] at hp; subst hp; exact hDw) (by rw [HD.out]; omega) hG3
 have hw1 : w.heap.size ≤ w1.heap.size := by rw [HD.out]; omega
 have h13 : w1.heap.size ≤ w3.heap.size := Nat.le_trans (by rw [size_alloc]; omega) hG3.size
 have HG3 := Lib.hid (show Grows w w3 from C3.low)
 clear HL HOA G1 C1 hG3 C0
 obtain ⟨ga, gc, rfl, hg1, hg2⟩ := hO3.form
 rw [hvn] at hO3 hg1 ⊢
 by_cases h0 : vn = 0
 ·have HRR := Lib.hid (RowY.row ⟨ps, rfl, hO3.row, fun p hp => (HP.out p hp).1.later HG3.out⟩)
  have HIN := Lib.hid (fun t (ht : t ∈ ps.map Yw.a) => show InW t by
   obtain ⟨p, hp, rfl⟩ := List.mem_map.1 ht
   exact (HP.out p hp).2)
  subst h0
  clear hO3
  go_wp2_with fail
  go_ret
  exact ⟨_, _, rfl, HRR.out, by rw [List.length_map]; omega, HIN.out, HG3.out⟩
 ·have HO := Lib.hid hO3
  obtain ⟨g, rfl⟩ : ∃ g, ga = some ⟨g, 0, none⟩ := by
   rcases hO3.2 with ⟨-, h2⟩ | ⟨g, cap, cur, e, -⟩
   ·omega
   ·injection e with e1 e2 e3
    exact ⟨g, e1⟩
  obtain ⟨rest, CH, -, hc1, hc2⟩ := own_has C3 hO3 (by intro p hp; rw [List.mem_singleton] at hp; subst hp; exact hDw) hw1 (by omega)
  obtain ⟨j, hj⟩ : ∃ j : Nat, j = a % vn := ⟨_, rfl⟩
  have hjl : j < vn := by rw [hj]; exact Nat.mod_lt _ (by omega)
  have HJQ := Lib.hid hj.symm
  have m1 : 0 ≤ (a : Int) % (vn : Int) := by omega
  have m2 : (a : Int) % (vn : Int) < vn := by omega
  obtain ⟨p, hp⟩ : ∃ p, ps[j]? = some p := ⟨_, List.getElem?_eq_getElem (by omega)⟩
  obtain ⟨⟨la, m, lc⟩, ⟨id, ln, lv, cl, nm, st, wt, ds⟩⟩ := p
  have HJ := Lib.hid hp
  have HPP := Lib.hid (HP.out _ (List.mem_of_getElem? hp))
  have hcell : ∀ (f : Nat) (x : Value), ([.int .i64 id, .slice la m lc, .int .i64 lv, .string cl, .string nm, .bool st, .int .i64 wt, .int .i64 ds] : List Value)[f]? = some x → (ps.flatMap tY.enc ++ rest)[j * 8 + f]? = some x := fun f x hx => by
   have h2 := G.flat_at tY_ok (j := f) (u := x) hp hx
   rw [show tY.k = 8 from rfl] at h2
   rw [List.getElem?_append_left (List.getElem?_eq_some_iff.1 h2).1]
   exact h2
  have HCE := Lib.hid hcell
  have n1 : (j : Int) < vn := by omega
  have n2 : (0 : Int) ≤ j := by omega
  have n3 : ¬ (vn : Int) = 0 := by omega
  have n4 : ((vn : Int) == 0) = false := by rw [beq_eq_false_iff_ne]; exact n3
  have c1 := CH.tail.fact (.head _) (i := 1) rfl
  have c2 := CH.tail.fact (.head _) (i := 2) rfl
  have c3 := CH.tail.fact (.head _) (i := 3) rfl
  have HCH := Lib.hid CH
  clear hj hp hcell CH C3 hO3
  go_upto_region 5 with fail
  rw [HJQ.out]
  clear m1 m2 HJQ c1
  have hd7 : (bb : Int) % 7 = 0 ∨ (bb : Int) % 7 = 1 ∨ (bb : Int) % 7 = 2 ∨ (bb : Int) % 7 = 3 ∨ (bb : Int) % 7 = 4 ∨ (bb : Int) % 7 = 5 ∨ (bb : Int) % 7 = 6 := by omega
  have hd0 : ((bb : Int)).tmod 7 = (bb : Int) % 7 := Int.tmod_eq_emod_of_nonneg (by omega)
  rcases hd7 with hd | hd | hd | hd | hd | hd | hd <;> rw [hd] at hd0
  ·have k0 := HCH.out.fact (.head _) (i := j * 8 + 0) (HCE.out 0 _ rfl)
   have f0 := HCH.out.free (.head _) (i := j * 8 + 0) (HCE.out 0 _ rfl)
   have HF := Lib.hid (row_changed (w := w) (f := 0) (q := ⟨(la, m, lc), ⟨n, ln, lv, cl, nm, st, wt, ds⟩⟩) (x := .int .i64 n) HCH.out HJ.out rfl (by decide) hc1 hc2 HP.out ⟨HPP.out.1.later (HG3.out.setCell (HCH.out.ge _ (.head _)) _), ⟨HPP.out.2.lv, HPP.out.2.ln⟩⟩ (Nat.le_refl _) HG3.out (by omega))
   rw [hvn] at HF
   simp only [Nat.add_zero] at k0 f0 HF
   go_wp2_with fail
   go_ret
   obtain ⟨us, h1, h2, h3, h4⟩ := HF.out
   exact ⟨_, rfl, us, h1, h2, h3, h4⟩
  ·have k0 := HCH.out.fact (.head _) (i := j * 8 + 2) (HCE.out 2 _ rfl)
   have f0 := HCH.out.free (.head _) (i := j * 8 + 2) (HCE.out 2 _ rfl)
   have HF := Lib.hid (row_changed (w := w) (f := 2) (q := ⟨(la, m, lc), ⟨id, ln, n, cl, nm, st, wt, ds⟩⟩) (x := .int .i64 n) HCH.out HJ.out rfl (by decide) hc1 hc2 HP.out ⟨HPP.out.1.later (HG3.out.setCell (HCH.out.ge _ (.head _)) _), ⟨HN.out, HPP.out.2.ln⟩⟩ (Nat.le_refl _) HG3.out (by omega))
   rw [hvn] at HF
   simp only [Nat.add_zero] at k0 f0 HF
   go_wp2_with fail
   go_ret
   obtain ⟨us, h1, h2, h3, h4⟩ := HF.out
   exact ⟨_, rfl, us, h1, h2, h3, h4⟩
  ·have k0 := HCH.out.fact (.head _) (i := j * 8 + 6) (HCE.out 6 _ rfl)
   have f0 := HCH.out.free (.head _) (i := j * 8 + 6) (HCE.out 6 _ rfl)
   have HF := Lib.hid (row_changed (w := w) (f := 6) (q := ⟨(la, m, lc), ⟨id, ln, lv, cl, nm, st, n, ds⟩⟩) (x := .int .i64 n) HCH.out HJ.out rfl (by decide) hc1 hc2 HP.out ⟨HPP.out.1.later (HG3.out.setCell (HCH.out.ge _ (.head _)) _), ⟨HPP.out.2.lv, HPP.out.2.ln⟩⟩ (Nat.le_refl _) HG3.out (by omega))
   rw [hvn] at HF
   simp only [Nat.add_zero] at k0 f0 HF
   go_wp2_with fail
   go_ret
   obtain ⟨us, h1, h2, h3, h4⟩ := HF.out
   exact ⟨_, rfl, us, h1, h2, h3, h4⟩
  ·have k0 := HCH.out.fact (.head _) (i := j * 8 + 1) (HCE.out 1 _ rfl)
   have f0 := HCH.out.free (.head _) (i := j * 8 + 1) (HCE.out 1 _ rfl)
   have HF := Lib.hid (row_changed (w := w) (f := 1) (q := ⟨(none, 0, 0), ⟨id, [], lv, cl, nm, st, wt, ds⟩⟩) (x := .slice none 0 0) HCH.out HJ.out rfl (by decide) hc1 hc2 HP.out ⟨⟨none, 0, rfl, by simp, by simp, .inl rfl⟩, ⟨HPP.out.2.lv, fun _ h => by cases h⟩⟩ (Nat.le_refl _) HG3.out (by omega))
   rw [hvn] at HF
   simp only [Nat.add_zero] at k0 f0 HF
   go_wp2_with fail
   go_ret
   obtain ⟨us, h1, h2, h3, h4⟩ := HF.out
   exact ⟨_, rfl, us, h1, h2, h3, h4⟩
  ·have k0 := HCH.out.fact (.head _) (i := j * 8 + 2) (HCE.out 2 _ rfl)
   have f0 := HCH.out.free (.head _) (i := j * 8 + 2) (HCE.out 2 _ rfl)
   have HF := Lib.hid (row_changed (w := w) (f := 2) (q := ⟨(la, m, lc), ⟨id, ln, (n.tmod 3), cl, nm, st, wt, ds⟩⟩) (x := .int .i64 (n.tmod 3)) HCH.out HJ.out rfl (by decide) hc1 hc2 HP.out ⟨HPP.out.1.later (HG3.out.setCell (HCH.out.ge _ (.head _)) _), ⟨(i64_tmod n 3 (by decide) (by decide)), HPP.out.2.ln⟩⟩ (Nat.le_refl _) HG3.out (by omega))
   rw [hvn] at HF
   simp only [Nat.add_zero] at k0 f0 HF
   go_wp2_with fail
   go_ret
   obtain ⟨us, h1, h2, h3, h4⟩ := HF.out
   exact ⟨_, rfl, us, h1, h2, h3, h4⟩
  ·obtain ⟨r, hr⟩ : ∃ r, n.tmod 20 = r := ⟨_, rfl⟩
   have hr1 := Int.natAbs_tmod n 20
   have hr2 := Nat.mod_lt n.natAbs (show 0 < (20 : Int).natAbs by decide)
   rw [hr] at hr1
   have hr3 : -20 < r ∧ r < 20 := by
    have e : (20 : Int).natAbs = 20 := rfl
    rw [e] at hr1 hr2
    omega
   clear hr1 hr2
   have HRR := Lib.hid hr3
   have hgD : D < g := by have := (HO.out.lt (k := g) rfl).1; omega
   have HS := Lib.hid (show ∀ w', Has w [(g, (ps.flatMap tY.enc ++ rest)), (D, [.slice ua un uc, .int .u8 a, .int .u8 bb, .int .i64 n])] w' → (w'.cell? ⟨D, 3, none⟩ = some (.int .i64 n) ∧ w'.cell? ⟨g, j * 8 + 1, none⟩ = some (.slice la m lc)) ∧ Has w [(g, (ps.flatMap tY.enc ++ rest)), (D, [.slice ua un uc, .int .u8 a, .int .u8 bb, .int .i64 n])] w' from fun w' h => ⟨⟨h.tail.fact (.head _) (i := 3) rfl, h.fact (.head _) (i := j * 8 + 1) (HCE.out 1 _ rfl)⟩, h⟩)
   go_upto_region 17 with fail
   refine plain_Z 13 (fun w' => (w'.cell? ⟨D, 3, none⟩ = some (.int .i64 n) ∧ w'.cell? ⟨g, j * 8 + 1, none⟩ = some (.slice la m lc)) ∧ Has w [(g, (ps.flatMap tY.enc ++ rest)), (D, [.slice ua un uc, .int .u8 a, .int .u8 bb, .int .i64 n])] w') (by kernel_rfl) ?_
   have X0 := HCH.out.drew
   have hHeld := HS.out _ X0
   generalize w3.drew = w5 at *
   clear c3
   refine wpAnyZ_take (i := 0) (oi := ⟨some 61, .move (.tmp 6), 64, _, _, none⟩) (oz := ⟨none, .store 42 (.tmp 73) (.tmp 71), 0, _, _, none⟩) (v := .pointer (some ⟨g, j * 8, none⟩)) rfl rfl (by kernel_rfl) (fun _ _ _ h => h) (by rfl) (by assumption) (fun wS hSw => ?_) ?_
   ·(try dsimp only at hSw); go_simp
   simp only [Act.put, pA, pB, pC]
   refine wpAnyZ_take (i := 1) (oi := ⟨some 62, .fieldAddr 25 (.tmp 3) 3, 0, _, _, none⟩) (oz := ⟨none, .store 42 (.tmp 73) (.tmp 71), 0, _, _, none⟩) (v := .pointer (some ⟨D, 3, none⟩)) rfl rfl (by kernel_rfl) (fun _ _ _ h => h) (by rfl) (by assumption) (fun wS hSw => ?_) ?_
   ·(try dsimp only at hSw); go_simp
   simp only [Act.put, pA, pB, pC]
   refine wpAnyZ_take (i := 2) (oi := ⟨some 63, .load 3 (.tmp 62), 3, _, _, none⟩) (oz := ⟨none, .store 42 (.tmp 73) (.tmp 71), 0, _, _, none⟩) (v := .int .i64 n) rfl rfl (by kernel_rfl) (fun _ _ _ h => h) (by rfl) (by assumption) (fun wS hSw => ?_) ?_
   ·(try dsimp only at hSw); go_simp
   simp only [Act.put, pA, pB, pC]
   refine wpAnyZ_take (i := 3) (oi := ⟨some 64, .binOp .rem 3 (.tmp 63) (.const (.int .i64 20)) 3, 3, _, _, none⟩) (oz := ⟨none, .store 42 (.tmp 73) (.tmp 71), 0, _, _, none⟩) (v := .int .i64 r) rfl rfl (by kernel_rfl) (fun _ _ _ h => h) (by rfl) (by assumption) (fun wS hSw => ?_) ?_
   ·(try dsimp only at hSw); go_simp
   simp only [Act.put, pA, pB, pC]
   refine wpAnyZ_take (i := 4) (oi := ⟨some 65, .build 37 #[(0, .tmp 64), (1, .const (.int .i64 10))], 37, _, _, none⟩) (oz := ⟨none, .store 42 (.tmp 73) (.tmp 71), 0, _, _, none⟩) (v := .agg #[.int .i64 r, .int .i64 10]) rfl rfl (by kernel_rfl) (fun _ _ _ h => h) (by rfl) (by assumption) (fun wS hSw => ?_) ?_
   ·(try dsimp only at hSw); go_simp
   simp only [Act.put, pA, pB, pC]
   refine wpAnyZ_take (i := 6) (oi := ⟨some 67, .move (.tmp 6), 64, _, _, none⟩) (oz := ⟨none, .store 42 (.tmp 73) (.tmp 71), 0, _, _, none⟩) (v := .pointer (some ⟨g, j * 8, none⟩)) rfl rfl (by kernel_rfl) (fun _ _ _ h => h) (by rfl) (by assumption) (fun wS hSw => ?_) ?_
   ·(try dsimp only at hSw); go_simp
   simp only [Act.put, pA, pB, pC]
   refine wpAnyZ_take (i := 7) (oi := ⟨some 68, .nilCheck (.tmp 67), 0, _, _, none⟩) (oz := ⟨none, .store 42 (.tmp 73) (.tmp 71), 0, _, _, none⟩) (v := .pointer (some ⟨g, j * 8, none⟩)) rfl rfl (by kernel_rfl) (fun _ _ _ h => h) (by rfl) (by assumption) (fun wS hSw => ?_) ?_
   ·(try dsimp only at hSw); go_simp
   simp only [Act.put, pA, pB, pC]
   refine wpAnyZ_take (i := 8) (oi := ⟨some 69, .fieldAddr 44 (.tmp 68) 1, 0, _, _, none⟩) (oz := ⟨none, .store 42 (.tmp 73) (.tmp 71), 0, _, _, none⟩) (v := .pointer (some ⟨g, j * 8 + 1, none⟩)) rfl rfl (by kernel_rfl) (fun _ _ _ h => h) (by rfl) (by assumption) (fun wS hSw => ?_) ?_
   ·(try dsimp only at hSw); go_simp
   simp only [Act.put, pA, pB, pC]
   refine wpAnyZ_take (i := 9) (oi := ⟨some 70, .load 42 (.tmp 69), 42, _, _, none⟩) (oz := ⟨none, .store 42 (.tmp 73) (.tmp 71), 0, _, _, none⟩) (v := .slice la m lc) rfl rfl (by kernel_rfl) (fun _ _ _ h => h) (by rfl) (by assumption) (fun wS hSw => ?_) ?_
   ·(try dsimp only at hSw); go_simp
   simp only [Act.put, pA, pB, pC]
   refine wpAnyZ_listed #[true, true, true, true, true, false, true, true, true, true, false, false, false, false] (by kernel_rfl) ?_
   refine wpAnyZ_one (i := 5) (o := ⟨some 66, .buildSlice 42 1 #[(0, .tmp 65)], 42, _, _, none⟩) (by kernel_rfl) rfl (fun K hK => ?_)
   go_simp
   have OW := own_one (b := w5.heap.size) (w := w5) (x := r) (y := 10) rfl (Nat.le_refl _) rfl
   have hgw : g < w5.heap.size := X0.lt0
   have X1 := X0.later ((Below.refl _ w5).alloc (Nat.le_refl _) (.cells #[.int .i64 r, .int .i64 10] 37))
   have hsz : w5.heap.size ≤ (w5.alloc (.cells #[.int .i64 r, .int .i64 10] 37)).heap.size := by rw [size_alloc]; omega
   generalize w5.alloc (.cells #[.int .i64 r, .int .i64 10] 37) = w6 at *
   obtain ⟨M5, hM5⟩ : ∃ M5, w5.heap.size = M5 := ⟨_, rfl⟩
   have hwM : w.heap.size ≤ M5 := by rw [← hM5]; exact X0.low.size
   rw [hM5] at OW hgw hsz
   simp only [hM5]
   clear hM5
   try clear hHeld
   refine hK.out _ _ (HS.out _ X1) (fun hHeld => ?_)
   clear hK K
   try simp only [pA, pB, pC]
   refine wpAnyZ_listed #[true, true, true, true, true, true, true, true, true, true, false, false, false, false] (by kernel_rfl) ?_
   clear X0
   refine wpAnyZ_one (i := 10) (o := ⟨some 71, .call { callee := .builtin .append, args := #[.tmp 66, .tmp 70], argTypes := #[42, 42] }, 42, _, _, none⟩) (by kernel_rfl) rfl (fun K hK => ?_)
   refine held_append_pts rfl _ _ rfl rfl OW rfl (HPP.out.1.later X1.low) (by have := HLL.out _ (List.mem_of_getElem? HJ.out); simp only [List.length_singleton] at this ⊢; omega) hsz ?_
   intro v7 w7 hO7 hG7
   have X2 := X1.grownB (b := M5) (fun k e => (OW.lt e).1) (by intro q hq; simp only [List.mem_cons, List.not_mem_nil, or_false] at hq; rcases hq with rfl | rfl; exact hgw; exact Nat.lt_trans hgD hgw) hwM hG7
   obtain ⟨sa, sn, sc, rfl, hsn, -⟩ := (hO7.row).form
   have HO7 := Lib.hid hO7
   clear X1 OW hG7 hO7 hsn
   try clear hHeld
   refine hK.out _ _ (HS.out _ X2) (fun hHeld => ?_)
   clear hK K
   try simp only [pA, pB, pC]
   refine wpAnyZ_listed #[true, true, true, true, true, true, true, true, true, true, true, false, false, false] (by kernel_rfl) ?_
   have k1 := X2.fact (.head _) (i := j * 8 + 1) (HCE.out 1 _ rfl)
   have f1 := X2.free (.head _) (i := j * 8 + 1) (HCE.out 1 _ rfl)
   have HF := Lib.hid (row_changed (w := w) (f := 1) (q := ⟨(sa, sn, sc), ⟨id, (r, 10) :: ln, lv, cl, nm, st, wt, ds⟩⟩) (x := .slice sa sn sc) X2 HJ.out rfl (by decide) hc1 hc2 HP.out ⟨((Oth.set g (j * 8 + 1) w7 _).own hgw HO7.out).row, ⟨HPP.out.2.lv, fun q hq => by rcases List.mem_cons.1 hq with rfl | hq; exact ⟨by have := HRR.out; unfold I64; simp only; omega, by unfold I64; simp only; omega⟩; exact HPP.out.2.ln q hq⟩⟩ (Nat.le_refl _) X2.low (by omega))
   rw [hvn] at HF
   refine wpAnyZ_one (i := 11) (o := ⟨some 72, .nilCheck (.tmp 61), 0, _, _, none⟩) (by kernel_rfl) rfl (fun K hK => ?_)
   go_simp
   try clear hHeld
   refine hK.out _ _ (HS.out _ X2) (fun hHeld => ?_)
   clear hK K
   try simp only [pA, pB, pC]
   refine wpAnyZ_listed #[true, true, true, true, true, true, true, true, true, true, true, true, false, false] (by kernel_rfl) ?_
   refine wpAnyZ_one (i := 12) (o := ⟨some 73, .fieldAddr 44 (.tmp 72) 1, 0, _, _, none⟩) (by kernel_rfl) rfl (fun K hK => ?_)
   go_simp
   try clear hHeld
   refine hK.out _ _ (HS.out _ X2) (fun hHeld => ?_)
   clear hK K
   try simp only [pA, pB, pC]
   refine wpAnyZ_listed #[true, true, true, true, true, true, true, true, true, true, true, true, true, false] (by kernel_rfl) ?_
   refine wpAnyZ_step (o := ⟨none, .store 42 (.tmp 73) (.tmp 71), 0, _, _, none⟩) (by kernel_rfl) (by decide) rfl (fun K hK => ?_)
   go_simp
   try clear hHeld
   refine hK.out _ _ ?_
   clear hK K
   try simp only [pA, pB, pC]
   refine tlA #[true, true, true, true, true, true, true, true, true, true, true, true, true, true] ?_
   have hHeld := True.intro
   refine wpAnyH_done (by kernel_rfl) ?_ _
   refine Calm.normal ?_
   go_wp2_with fail
   go_ret
   obtain ⟨us, h1, h2, h3, h4⟩ := HF.out
   exact ⟨_, rfl, us, h1, h2, h3, h4⟩
  ·obtain ⟨r, hr⟩ : ∃ r, n.tmod 20 = r := ⟨_, rfl⟩
   have hr1 := Int.natAbs_tmod n 20
   have hr2 := Nat.mod_lt n.natAbs (show 0 < (20 : Int).natAbs by decide)
   rw [hr] at hr1
   have hr3 : -20 < r ∧ r < 20 := by
    have e : (20 : Int).natAbs = 20 := rfl
    rw [e] at hr1 hr2
    omega
   clear hr1 hr2
   have e1 : IntKind.i64.wrap (r + 20) = r + 20 := by rw [IntKind.wrap_i64]; omega
   obtain ⟨q, hq⟩ : ∃ q, (r + 20) % 20 = q := ⟨_, rfl⟩
   have e2 : (r + 20).tmod 20 = q := by rw [Int.tmod_eq_emod_of_nonneg (by omega)]; exact hq
   have e4 : r % 20 = q := by omega
   have hq2 : 0 ≤ q ∧ q < 20 := by omega
   obtain ⟨K, hK⟩ : ∃ K : Nat, 70 + q = (K : Int) := ⟨(70 + q).toNat, by omega⟩
   have e3 : IntKind.i64.wrap (70 + q) = (K : Int) := by rw [IntKind.wrap_i64]; omega
   have hK1 : 0 < K ∧ K < 90 := by omega
   clear hq hK hq2
   go_wp2_with (at_builtin; refine wpList_append_zeros rfl _ _ rfl rfl HO.out rfl (by omega) hK1.1 (by omega) h13 ?_)
   intro v4 w4 hO4 hG4
   have HG4 := Lib.hid (G.grow_append HG3.out HO.out hw1 hG4)
   have HRW := Lib.hid (RowY.row ⟨ps ++ List.replicate K zY, rfl, hO4.row, fun p hp => by
    rcases List.mem_append.1 hp with hp | hp
    ·exact (HP.out p hp).1.later HG4.out
    ·obtain rfl := (List.mem_replicate.1 hp).2
     exact ⟨none, 0, rfl, by simp [zY], by simp, .inl rfl⟩⟩)
   have HIN := Lib.hid (fun t (ht : t ∈ (ps ++ List.replicate K zY).map Yw.a) => show InW t by
    obtain ⟨p, hp, rfl⟩ := List.mem_map.1 ht
    rcases List.mem_append.1 hp with hp | hp
    ·exact (HP.out p hp).2
    ·obtain rfl := (List.mem_replicate.1 hp).2
     exact ⟨i64_zero, fun _ h => by cases h⟩)
   have HLE := Lib.hid (show ((ps ++ List.replicate K zY).map Yw.a).length ≤ 100 by rw [List.length_map, List.length_append, List.length_replicate]; omega)
   clear hO4 hG4 e1 e2 e3 e4
   go_wp2_with fail
   go_ret
   exact ⟨_, _, rfl, HRW.out, HLE.out, HIN.out, HG4.out⟩

end Go.Proofs.YtoaldbjcpfkcjaaGreat
