/- Labels of the reference. -/
import Derived.Test.YtoaldbjcpfkcjaaGreatcNb
import Derived.Test.YtoaldbjcpfkcjaaGreatcPm
import Derived.Test.YtoaldbjcpfkcjaaGreatcKc
import Derived.Test.YtoaldbjcpfkcjaaGreatcOa
namespace Go.Proofs.YtoaldbjcpfkcjaaGreat

/-- Labels on their way: each is a connected index, and not above. -/
structure LabI (ws : List Wy) (L : List Int) : Prop where
 len : L.length = ws.length
 at' : ∀ (i : Nat) (x : Int), L[i]? = some x → ∃ m : Nat, x = m ∧ m ≤ i ∧ CC ws m i = true
/-- Labels: the least of each class. -/
structure LabOk (ws : List Wy) (L : List Int) : Prop where
 len : L.length = ws.length
 at' : ∀ i, i < ws.length → ∃ m : Nat, L[i]? = some (m : Int) ∧ m ∈ reps ws.length (CC ws) ∧ CC ws m i = true
theorem LabI.start (ws : List Wy) : LabI ws ((List.range ws.length).map fun i : Nat => (i : Int)) := by
 refine ⟨by simp, fun i x h => ?_⟩
 rw [List.getElem?_map] at h
 cases hq : (List.range ws.length)[i]? with
 | none => rw [hq] at h; cases h
 | some m =>
  rw [hq] at h
  obtain ⟨h1, h2⟩ := List.getElem?_eq_some_iff.1 hq
  rw [List.getElem_range] at h2
  cases h
  exact ⟨m, rfl, by omega, by rw [h2]; exact (CC_equ ws).r _⟩
theorem LabI.set {ws : List Wy} {L : List Int} (h : LabI ws L) {i k : Nat} {x y : Int} (hi : L[i]? = some x) (hk : L[k]? = some y) (hlt : y < x) (hJ : JJ ws i k = true) : LabI ws (L.set i y) := by
 obtain ⟨m, rfl, hm, hC⟩ := h.at' k y hk
 obtain ⟨n, rfl, hn, -⟩ := h.at' i x hi
 refine ⟨by rw [List.length_set]; exact h.len, fun j z hj => ?_⟩
 rw [List.getElem?_set] at hj
 split at hj
 ·next e =>
  subst e
  split at hj
  ·cases hj
   exact ⟨m, rfl, by omega, (CC_equ ws).t hC ((CC_equ ws).s (CC_conn.2 (.one hJ)))⟩
  ·cases hj
 ·exact h.at' j z hj
theorem LabI.done {ws : List Wy} {L : List Int} (h : LabI ws L) (hs : ∀ (i k : Nat) (x y : Int), L[i]? = some x → L[k]? = some y → JJ ws i k = true → ¬ y < x) : LabOk ws L := by
 have E := CC_equ ws
 have eqJ : ∀ i k : Nat, JJ ws i k = true → L[i]? = L[k]? := by
  intro i k hJ
  obtain ⟨a, b, ha, hb, -⟩ := JJ_get hJ
  have hi := (List.getElem?_eq_some_iff.1 ha).1
  have hk := (List.getElem?_eq_some_iff.1 hb).1
  rw [← h.len] at hi hk
  have q1 := List.getElem?_eq_getElem hi
  have q2 := List.getElem?_eq_getElem hk
  have r1 := hs i k _ _ q1 q2 hJ
  have r2 := hs k i _ _ q2 q1 (JJ_symm ws _ _ hJ)
  rw [q1, q2]
  congr 1
  omega
 have eqC : ∀ i k : Nat, Conn (JJ ws) i k → L[i]? = L[k]? := by
  intro i k hc
  induction hc with
  | refl => rfl
  | step _ q ih => exact ih.trans (eqJ _ _ q)
 refine ⟨h.len, fun i hi => ?_⟩
 obtain ⟨r, hr, hC, hri⟩ := rep_of E hi
 have hrl := (reps_mem.1 hr).1
 obtain ⟨m, hm, hmr, hCm⟩ := h.at' r _ (List.getElem?_eq_getElem (by rw [h.len]; exact hrl))
 have hrm : m = r := by
  rcases Nat.lt_or_ge m r with q | q
  ·have := (reps_mem.1 hr).2 m q
   rw [hCm] at this; cases this
  ·omega
 subst hrm
 refine ⟨m, ?_, hr, hC⟩
 rw [← eqC m i (CC_conn.1 hC), List.getElem?_eq_getElem (by rw [h.len]; exact hrl), hm]
theorem LabOk.own {ws : List Wy} {L : List Int} (h : LabOk ws L) {i : Nat} (hi : i < ws.length) {x : Int} (hx : L[i]? = some x) : (x = (i : Int)) ↔ i ∈ reps ws.length (CC ws) := by
 obtain ⟨m, h1, h2, h3⟩ := h.at' i hi
 rw [h1] at hx
 cases hx
 constructor
 ·intro e
  have : m = i := by omega
  subst this; exact h2
 ·intro e
  rw [rep_one (CC_equ ws) h2 e h3]
theorem LabOk.cls {ws : List Wy} {L : List Int} (h : LabOk ws L) {i k : Nat} (hi : i ∈ reps ws.length (CC ws)) (hk : k < ws.length) {x : Int} (hx : L[k]? = some x) : (x = (i : Int)) ↔ CC ws i k = true := by
 obtain ⟨m, h1, h2, h3⟩ := h.at' k hk
 rw [h1] at hx
 cases hx
 constructor
 ·intro e
  have : m = i := by omega
  subst this; exact h3
 ·intro e
  rw [rep_one (CC_equ ws) h2 hi ((CC_equ ws).t h3 ((CC_equ ws).s e))]
/-- The sum of labels, which falls. -/
def sumL (L : List Int) : Nat := (L.map Int.toNat).sum
theorem sum_set_lt : ∀ {L : List Int} {i : Nat} {x y : Int}, L[i]? = some x → 0 ≤ y → y < x → sumL (L.set i y) < sumL L
 | [], i, x, y, h, _, _ => by simp at h
 | z :: L, 0, x, y, h, h0, h1 => by
  simp only [List.getElem?_cons_zero, Option.some.injEq] at h
  subst h
  simp only [List.set_cons_zero, sumL, List.map_cons, List.sum_cons]
  omega
 | z :: L, i + 1, x, y, h, h0, h1 => by
  simp only [List.getElem?_cons_succ] at h
  have := sum_set_lt h h0 h1
  simp only [sumL, List.set_cons_succ, List.map_cons, List.sum_cons] at this ⊢
  omega
/-- The numbers of a class, among the first n. -/
def clsI (ws : List Wy) (i n : Nat) : List Int := ((List.range n).filter fun k => CC ws i k).map (idsOf ws)
theorem clsI_yes {ws : List Wy} {i n : Nat} (h : CC ws i n = true) : clsI ws i (n + 1) = clsI ws i n ++ [idsOf ws n] := by
 unfold clsI; rw [filter_succ, h]; simp
theorem clsI_no {ws : List Wy} {i n : Nat} (h : CC ws i n = false) : clsI ws i (n + 1) = clsI ws i n := by
 unfold clsI; rw [filter_succ, h]; simp
/-- A group on its way. -/
def GrpI (ws : List Wy) (i n : Nat) (g : List Int) : Prop := g = sortI (clsI ws i n)
theorem GrpI.start (ws : List Wy) (i : Nat) : GrpI ws i 0 [] := by unfold GrpI clsI sortI; simp
theorem putL_sortI (l : List Int) (x : Int) : G.putL (sortI l) x = sortI (l ++ [x]) :=
 sortI_eq ((G.putL_perm _ _).trans ((sortI_perm l).append_right _)) (G.putL_sorted _ (sortI_sorted l))
theorem GrpI.yes {ws : List Wy} {i n : Nat} {g : List Int} (h : GrpI ws i n g) (hc : CC ws i n = true) : GrpI ws i (n + 1) (G.putL g (idsOf ws n)) := by
 unfold GrpI at *; rw [clsI_yes hc, ← putL_sortI, h]
theorem GrpI.no {ws : List Wy} {i n : Nat} {g : List Int} (h : GrpI ws i n g) (hc : CC ws i n = false) : GrpI ws i (n + 1) g := by
 unfold GrpI at *; rw [clsI_no hc, h]
/-- The groups of the classes whose least is among the first i. -/
def preG (ws : List Wy) (i : Nat) : List (List Int) := (((List.range i).filter fun r => decide (r ∈ reps ws.length (CC ws)))).map fun r => sortI (clsI ws r ws.length)
theorem preG_yes {ws : List Wy} {i : Nat} (h : i ∈ reps ws.length (CC ws)) : preG ws (i + 1) = preG ws i ++ [sortI (clsI ws i ws.length)] := by
 unfold preG; rw [filter_succ]; simp [h]
theorem preG_no {ws : List Wy} {i : Nat} (h : ¬ i ∈ reps ws.length (CC ws)) : preG ws (i + 1) = preG ws i := by
 unfold preG; rw [filter_succ]; simp [h]
theorem preG_all (ws : List Wy) : sortG (preG ws ws.length) = grpW ws := by
 unfold grpW grp preG cls
 rw [List.map_map]
 have : (List.range ws.length).filter (fun r => decide (r ∈ reps ws.length (CC ws))) = reps ws.length (CC ws) := by
  conv => rhs; unfold reps
  refine List.filter_congr fun i hi => ?_
  rw [Bool.eq_iff_iff]
  simp only [decide_eq_true_eq, List.all_eq_true, List.mem_range, Bool.not_eq_true']
  rw [reps_mem]
  exact ⟨fun h => h.2, fun h => ⟨List.mem_range.1 hi, h⟩⟩
 rw [this]
 rfl
def ltG (x y : List Int) : Bool := !lexle y x
def insL (gs : List (List Int)) (g : List Int) : List (List Int) := G.insG ltG gs g
theorem insL_sortG (l : List (List Int)) (x : List Int) : insL (sortG l) x = sortG (l ++ [x]) :=
 sortG_eq ((G.insG_perm _ _ _).trans ((sortG_perm l).append_right _)) (G.insG_sorted (le := lexle) (lt := ltG) (fun _ _ => rfl) lexle_total (fun h g => lexle_trans h g) x (sortG_sorted l))

end Go.Proofs.YtoaldbjcpfkcjaaGreat

namespace Go.Proofs.YtoaldbjcpfkcjaaGreat
open Go.RowKit Go.Lib

/-- A pass over the labels, on its way. -/
structure Pass (ws : List Wy) (L L2 : List Int) (b : Bool) (i k : Nat) : Prop where
 lab : LabI ws L2
 len : L2.length = L.length
 no : b = false → L2 = L ∧ ∀ (x y : Nat) (p q : Int), (x < i ∨ (x = i ∧ y < k)) → L[x]? = some p → L[y]? = some q → JJ ws x y = true → ¬ q < p
 yes : b = true → sumL L2 < sumL L
theorem Pass.start {ws : List Wy} {L : List Int} (h : LabI ws L) : Pass ws L L false 0 0 := ⟨h, rfl, fun _ => ⟨rfl, fun x y p q h => by omega⟩, fun h => by cases h⟩
theorem Pass.keep {ws : List Wy} {L L2 : List Int} {b : Bool} {i k : Nat} {p q : Int} (h : Pass ws L L2 b i k) (hi : L2[i]? = some p) (hk : L2[k]? = some q) (hn : ¬ q < p ∨ JJ ws i k = false) : Pass ws L L2 b i (k + 1) := by
 refine ⟨h.lab, h.len, fun hb => ?_, h.yes⟩
 obtain ⟨e, g⟩ := h.no hb
 refine ⟨e, fun x y p' q' hxy hx hy hJ => ?_⟩
 by_cases hq : x = i ∧ y = k
 ·obtain ⟨rfl, rfl⟩ := hq
  rw [← e, hi] at hx
  rw [← e, hk] at hy
  cases hx; cases hy
  rcases hn with hn | hn
  ·exact hn
  ·rw [hn] at hJ; cases hJ
 ·exact g x y p' q' (by omega) hx hy hJ
theorem Pass.put {ws : List Wy} {L L2 : List Int} {b : Bool} {i k : Nat} {p q : Int} (h : Pass ws L L2 b i k) (hi : L2[i]? = some p) (hk : L2[k]? = some q) (hlt : q < p) (hJ : JJ ws i k = true) : Pass ws L (L2.set i q) true i (k + 1) := by
 refine ⟨h.lab.set hi hk hlt hJ, by rw [List.length_set]; exact h.len, (fun hb => by cases hb), fun _ => ?_⟩
 obtain ⟨m, rfl, -, -⟩ := h.lab.at' k q hk
 have := sum_set_lt hi (by omega) hlt
 cases hb : b with
 | false => rw [(h.no hb).1] at this ⊢; exact this
 | true => exact Nat.lt_trans this (h.yes hb)
theorem Pass.row {ws : List Wy} {L L2 : List Int} {b : Bool} {i : Nat} (h : Pass ws L L2 b i L2.length) : Pass ws L L2 b (i + 1) 0 := by
 refine ⟨h.lab, h.len, fun hb => ⟨(h.no hb).1, fun x y p q hxy hx hy hJ => ?_⟩, h.yes⟩
 have hl := (List.getElem?_eq_some_iff.1 hy).1
 exact (h.no hb).2 x y p q (by rw [h.len]; omega) hx hy hJ
theorem Pass.done {ws : List Wy} {L L2 : List Int} (h : Pass ws L L2 false L2.length 0) : LabOk ws L2 := by
 refine h.lab.done fun i k x y hx hy hJ => ?_
 have hl := (List.getElem?_eq_some_iff.1 hx).1
 rw [(h.no rfl).1] at hx hy hl
 exact (h.no rfl).2 i k x y (.inl (by rw [h.len]; exact hl)) hx hy hJ
theorem set_app {L : List Int} {rest : List Value} {i : Nat} {x : Int} (h : i < L.length) : (L.map (Value.int .i64) ++ rest).set i (.int .i64 x) = (L.set i x).map (Value.int .i64) ++ rest := by
 rw [List.set_append, List.length_map, if_pos h, List.map_set]
/-- Labels in a block of the call's own. -/
def LabW (w wr : World) (a : Option Addr) (L : List Int) : Prop := Below w.heap.size w wr ∧ (0 < L.length → ∃ g rest, a = some ⟨g, 0, none⟩ ∧ Has w [(g, L.map (Value.int .i64) ++ rest)] wr)
theorem LabW.of_has {w wr : World} {g n : Nat} {L : List Int} {rest : List Value} (_ : L.length = n) (h : Has w [(g, L.map (Value.int .i64) ++ rest)] wr) : LabW w wr (some ⟨g, 0, none⟩) L := ⟨h.low, fun _ => ⟨g, rest, rfl, h⟩⟩
theorem LabW.of_own {w wr : World} {v : Value} {L : List Int} (h : OwnN w.heap.size wr v L) (hb : Below w.heap.size w wr) : ∃ a c, v = .slice a L.length c ∧ L.length ≤ c ∧ (c : Int) ≤ 9223372036854775807 ∧ LabW w wr a L := by
 rcases h.2 with ⟨rfl, h2⟩ | ⟨g, cap, cur, rfl, h2, h3, h4, h5, h6, h7⟩
 ·exact ⟨none, 0, by rw [h2], by omega, by omega, hb, fun h => by omega⟩
 ·refine ⟨_, cap, rfl, h4, by unfold maxLen at h5; omega, hb, fun _ => ⟨g, cur.toList.drop L.length, rfl, ?_⟩⟩
  rw [Nat.mul_one] at h7
  rw [← h7, List.take_append_drop]
  have hlt : g < wr.heap.size := by
   rcases Nat.lt_or_ge g wr.heap.size with q | q
   ·exact q
   ·rw [Array.getElem?_eq_none q] at h3; cases h3
  refine ⟨fun p hp i v hv => ?_, fun p hp => ?_, fun p hp => ?_, List.pairwise_singleton _ _, hb⟩ <;> obtain rfl := List.mem_singleton.1 hp
  ·exact ⟨by rw [cell_of_row wr g i cur 3 (0, 0) h3]; simpa using hv, frozen_of_row wr g i cur 3 h3⟩
  ·exact hlt
  ·exact h2
theorem LabW.row {w wr : World} {a : Option Addr} {n c : Nat} {L : List Int} (h : LabW w wr a L) (hn : L.length = n) (h1 : n ≤ c) (h2 : (c : Int) ≤ 9223372036854775807) : RowN wr (.slice a n c) L := by
 subst hn
 refine ⟨a, c, rfl, h1, h2, ?_⟩
 rcases Nat.eq_zero_or_pos L.length with q | q
 ·exact .inl (List.eq_nil_of_length_eq_zero q)
 ·obtain ⟨g, rest, rfl, hH⟩ := h.2 q
  refine .inr ⟨g, 0, rfl, fun i x hx => ?_⟩
  rw [Nat.zero_add]
  exact hH.fact (.head _) (i := i) (by simp only; rw [List.getElem?_append_left (by rw [List.length_map]; exact (List.getElem?_eq_some_iff.1 hx).1), List.getElem?_map, hx]; rfl)
/-- The sum of the labels in memory. -/
def labS (a : Option Addr) (n : Nat) (W : World) : Nat := match a with
 | some p => ((List.range n).map fun i => (RowKit.intOf ((W.cell? ⟨p.block, i, none⟩).getD (.bool false))).toNat).sum
 | none => 0
theorem labS_is {w wr : World} {a : Option Addr} {n : Nat} {L : List Int} (h : LabW w wr a L) (hn : L.length = n) : labS a n wr = sumL L := by
 subst hn
 rcases Nat.eq_zero_or_pos L.length with q | q
 ·obtain rfl := List.eq_nil_of_length_eq_zero q
  unfold labS sumL
  cases a <;> simp
 ·obtain ⟨g, rest, rfl, hH⟩ := h.2 q
  unfold labS sumL
  simp only
  congr 1
  refine List.ext_getElem? fun i => ?_
  rw [List.getElem?_map, List.getElem?_map]
  by_cases hi : i < L.length
  ·rw [List.getElem?_range hi, List.getElem?_eq_getElem hi]
   simp only [Option.map_some]
   rw [hH.fact (.head _) (i := i) (v := .int .i64 L[i]) (by simp only; rw [List.getElem?_append_left (by rw [List.length_map]; exact hi), List.getElem?_map, List.getElem?_eq_getElem hi]; rfl)]
   rfl
  ·rw [List.getElem?_eq_none (by simpa using hi), List.getElem?_eq_none (by simpa using hi)]
   rfl
def boolN : Value → Nat
 | .bool true => 1
 | _ => 0
set_option linter.unusedSimpArgs false in
set_option maxRecDepth 100000 in
set_option maxHeartbeats 4000000 in
theorem labels_any (v : Value) (ws : List Wy) (w : World) (RW : RowW w v ws) (h6 : ws.length ≤ 1000) :
  Calls Tryz.prog 43 #[v] w fun e w' => ∃ u L, e = .returned u ∧ RowN w' u L ∧ LabOk ws L ∧ Below w.heap.size w w' := by
 obtain ⟨wa, n, wc, rfl, hn, hc1, hc2, RW⟩ := RW.form
 have HN := Lib.hid hn
 have HW := Lib.hid RW
 have hn6 : n ≤ 1000 := by omega
 clear hn RW h6
 go_enter Tryz.func43, Tryz.ntmps43
 go_wp2_with fail
 go_loopw [3, 4] (fun o i wr => ∃ k : Nat, k ≤ n ∧ i = .int .i64 k ∧ Hid (OwnN w.heap.size wr o ((List.range k).map fun i : Nat => (i : Int))) ∧ Below w.heap.size w wr) (fun _ i _ => n - (RowKit.intOf i).toNat)
 case atStart => exact ⟨0, Nat.zero_le _, rfl, Lib.hid (OwnN.nil _ _), Below.refl _ _⟩
 case round =>
  obtain ⟨k, hk, rfl, HO, HB⟩ := hrel
  by_cases hkn : k < n
  ·have b1 : (k : Int) < n := by omega
   have HO1 := Lib.hid (HO.out.later (w' := wr.alloc (.cells #[.int .i64 k] 3)) ((Below.refl _ _).alloc (Nat.le_refl _) _))
   have HR1 := Lib.hid (rowN_one wr 3 k wr.heap.size rfl)
   have HB1 := Lib.hid (HB.alloc HB.size (.cells #[.int .i64 k] 3))
   go_wp2_with (at_builtin; refine wpList_append_num rfl _ _ rfl rfl HO1.out rfl HR1.out (by simp; omega) (by have := HB1.out.size; exact this) ?_)
   intro v' w2 hO2 hG _
   have HO2 := Lib.hid hO2
   have HB2 := grow_append_num HB1.out HO1.out (Nat.le_refl _) hG
   clear HO1 HR1 HB1 hO2 hG HO HB
   go_wp2_with fail
   go_roundw
   case rel => exact ⟨k + 1, by omega, by go_num, Lib.hid (by rw [List.range_succ, List.map_append]; exact HO2.out), HB2⟩
   case measure => simp [RowKit.intOf]; omega
  ·obtain rfl : n = k := by omega
   obtain ⟨L0, hL0⟩ : ∃ L0, (List.range n).map (fun i : Nat => (i : Int)) = L0 := ⟨_, rfl⟩
   have HL0 := Lib.hid (show LabI ws L0 ∧ L0.length = n by rw [← hL0, ← HN.out]; exact ⟨LabI.start ws, by simp⟩)
   rw [hL0] at HO
   obtain ⟨va, vc, rfl, hv1, hv2, HV⟩ := LabW.of_own HO.out HB
   have HV := Lib.hid HV
   have HK := Lib.hid HN.out
   have hv3 := HL0.out.2
   rw [hv3] at hv1 ⊢
   clear hL0 hv3 HO HB
   go_wp2_with fail
   go_loopw [5] (fun c W => ∃ (b : Bool) (L : List Int), c = .bool b ∧ L.length = n ∧ Hid (LabI ws L) ∧ Hid (LabW w W va L) ∧ (b = false → Hid (LabOk ws L))) (fun c W => 2 * labS va n W + boolN c)
   case atStart => exact ⟨true, L0, rfl, HL0.out.2, Lib.hid HL0.out.1, HV, fun h => by cases h⟩
   case round =>
    clear HV HL0
    obtain ⟨b0, L, rfl, hLn, HI, HV, hD⟩ := hrel
    have HLn := Lib.hid hLn
    have HV0 := HV
    cases b0
    ·have HD := hD rfl
     have HE := Lib.hid (show Below w.heap.size w wr from HV.out.1)
     have HR := Lib.hid (HV.out.row hLn hv1 hv2)
     clear hD
     go_wp2_with fail
     go_ret
     exact ⟨_, L, rfl, HR.out, HD.out, HE.out⟩
    ·clear hD
     go_wp2_with fail
     go_loopw [5, 6] (fun c i W => ∃ (m : Nat) (b : Bool) (L2 : List Int), m ≤ n ∧ i = .int .i64 m ∧ c = .bool b ∧ Hid (Pass ws L L2 b m 0) ∧ Hid (LabW w W va L2)) (fun _ i _ => n - (RowKit.intOf i).toNat)
     case atStart => exact ⟨0, false, L, Nat.zero_le _, rfl, rfl, Lib.hid (Pass.start HI.out), HV⟩
     case round =>
      clear HV
      obtain ⟨i, b1, L1, hi, rfl, rfl, HP1, HV1⟩ := hrel
      by_cases hin : i < n
      ·have b2 : (i : Int) < n := by omega
       have b3 : (0 : Int) ≤ i := by omega
       obtain ⟨bb, oo, rfl, hcell⟩ := HW.out.spot (by rw [HN.out]; omega)
       obtain ⟨ti, hti⟩ : ∃ t, ws[i]? = some t := ⟨_, List.getElem?_eq_getElem (by rw [HN.out]; omega)⟩
       obtain ⟨ui, ri, ai⟩ := hcell i ti hti
       have HTI := Lib.hid hti
       have RI := Lib.hid ri
       obtain ⟨a0, a1, a2, a3, a4, a5, a6, a7⟩ := ai
       replace a0 := Lib.hid a0; replace a1 := Lib.hid a1; replace a2 := Lib.hid a2; replace a3 := Lib.hid a3; replace a4 := Lib.hid a4; replace a5 := Lib.hid a5; replace a6 := Lib.hid a6; replace a7 := Lib.hid a7
       have HCELL := Lib.hid hcell
       clear hti ri hcell
       go_wp2_with fail
       go_loopw [5, 7] (fun c i' W => ∃ (k : Nat) (b : Bool) (L2 : List Int), k ≤ n ∧ i' = .int .i64 k ∧ c = .bool b ∧ Hid (Pass ws L L2 b i k) ∧ LabW w W va L2) (fun _ i _ => n - (RowKit.intOf i).toNat)
       case atStart => exact ⟨0, b1, L1, Nat.zero_le _, rfl, rfl, HP1, HV1.out⟩
       case round =>
        clear HV1 HP1
        obtain ⟨k, b, L2, hk, rfl, rfl, HP, HV2⟩ := hrel
        by_cases hkn : k < n
        ·have b6 : (k : Int) < n := by omega
         have b7 : (0 : Int) ≤ k := by omega
         have hL2 : L2.length = n := by rw [HP.out.len]; exact HLn.out
         obtain ⟨g, rest, rfl, hH⟩ := HV2.2 (by omega)
         obtain ⟨tk, htk⟩ : ∃ t, ws[k]? = some t := ⟨_, List.getElem?_eq_getElem (by rw [HN.out]; omega)⟩
         obtain ⟨uk, rk, bk⟩ := HCELL.out k tk htk
         have RK := Lib.hid rk
         have HBK := Lib.hid bk
         obtain ⟨jb, hjb⟩ : ∃ jb, joinP ti tk = jb := ⟨_, rfl⟩
         have HJ := Lib.hid hjb
         have HJJ := Lib.hid (show JJ ws i k = jb by rw [JJ_some HTI.out htk]; exact hjb)
         clear htk rk bk hjb
         obtain ⟨lk, hlk⟩ : ∃ s, L2[k]? = some s := ⟨_, List.getElem?_eq_getElem (by omega)⟩
         obtain ⟨li, hli⟩ : ∃ s, L2[i]? = some s := ⟨_, List.getElem?_eq_getElem (by omega)⟩
         have HLN := Lib.hid hL2
         have HIL := Lib.hid (show i < L2.length by omega)
         have HMK := Lib.hid (show (L2.map (Value.int .i64) ++ rest)[k]? = some (.int .i64 lk) by rw [List.getElem?_append_left (by rw [List.length_map]; omega), List.getElem?_map, hlk]; rfl)
         have HMI := Lib.hid (show (L2.map (Value.int .i64) ++ rest)[i]? = some (.int .i64 li) by rw [List.getElem?_append_left (by rw [List.length_map]; omega), List.getElem?_map, hli]; rfl)
         have HLK := Lib.hid hlk
         have HLI := Lib.hid hli
         clear HV2 hlk hli hL2
         by_cases bl : lk < li
         ·have HS2 := Lib.hid (show ∀ w', Has w [(g, (L2.map (Value.int .i64) ++ rest))] w' → (w'.cell? ⟨g, k, none⟩ = some (.int .i64 lk) ∧ w'.cell? ⟨g, i, none⟩ = some (.int .i64 li) ∧ w'.cell? ⟨bb, oo + i * 8, none⟩ = some (.int .i64 ti.id) ∧ w'.cell? ⟨bb, oo + i * 8 + 1, none⟩ = some (ui) ∧ w'.cell? ⟨bb, oo + i * 8 + 2, none⟩ = some (.int .i64 ti.lv) ∧ w'.cell? ⟨bb, oo + i * 8 + 3, none⟩ = some (.string ti.cl) ∧ w'.cell? ⟨bb, oo + i * 8 + 4, none⟩ = some (.string ti.nm) ∧ w'.cell? ⟨bb, oo + i * 8 + 5, none⟩ = some (.bool ti.st) ∧ w'.cell? ⟨bb, oo + i * 8 + 6, none⟩ = some (.int .i64 ti.wt) ∧ w'.cell? ⟨bb, oo + i * 8 + 7, none⟩ = some (.int .i64 ti.ds) ∧ w'.cell? ⟨bb, oo + k * 8, none⟩ = some (.int .i64 tk.id) ∧ w'.cell? ⟨bb, oo + k * 8 + 1, none⟩ = some (uk) ∧ w'.cell? ⟨bb, oo + k * 8 + 2, none⟩ = some (.int .i64 tk.lv) ∧ w'.cell? ⟨bb, oo + k * 8 + 3, none⟩ = some (.string tk.cl) ∧ w'.cell? ⟨bb, oo + k * 8 + 4, none⟩ = some (.string tk.nm) ∧ w'.cell? ⟨bb, oo + k * 8 + 5, none⟩ = some (.bool tk.st) ∧ w'.cell? ⟨bb, oo + k * 8 + 6, none⟩ = some (.int .i64 tk.wt) ∧ w'.cell? ⟨bb, oo + k * 8 + 7, none⟩ = some (.int .i64 tk.ds)) ∧ Has w [(g, (L2.map (Value.int .i64) ++ rest))] w' from fun w' h => ⟨⟨h.fact (.head _) (i := k) (HMK.out), h.fact (.head _) (i := i) (HMI.out), (h.low.cell (World.block_lt_of_cell? w _ a0.out)).trans a0.out, (h.low.cell (World.block_lt_of_cell? w _ a1.out)).trans a1.out, (h.low.cell (World.block_lt_of_cell? w _ a2.out)).trans a2.out, (h.low.cell (World.block_lt_of_cell? w _ a3.out)).trans a3.out, (h.low.cell (World.block_lt_of_cell? w _ a4.out)).trans a4.out, (h.low.cell (World.block_lt_of_cell? w _ a5.out)).trans a5.out, (h.low.cell (World.block_lt_of_cell? w _ a6.out)).trans a6.out, (h.low.cell (World.block_lt_of_cell? w _ a7.out)).trans a7.out, (h.low.cell (World.block_lt_of_cell? w _ HBK.out.1)).trans HBK.out.1, (h.low.cell (World.block_lt_of_cell? w _ HBK.out.2.1)).trans HBK.out.2.1, (h.low.cell (World.block_lt_of_cell? w _ HBK.out.2.2.1)).trans HBK.out.2.2.1, (h.low.cell (World.block_lt_of_cell? w _ HBK.out.2.2.2.1)).trans HBK.out.2.2.2.1, (h.low.cell (World.block_lt_of_cell? w _ HBK.out.2.2.2.2.1)).trans HBK.out.2.2.2.2.1, (h.low.cell (World.block_lt_of_cell? w _ HBK.out.2.2.2.2.2.1)).trans HBK.out.2.2.2.2.2.1, (h.low.cell (World.block_lt_of_cell? w _ HBK.out.2.2.2.2.2.2.1)).trans HBK.out.2.2.2.2.2.2.1, (h.low.cell (World.block_lt_of_cell? w _ HBK.out.2.2.2.2.2.2.2)).trans HBK.out.2.2.2.2.2.2.2⟩, h⟩)
          go_upto_region 15 with fail
          have X0 := hH.drew
          refine wp_region_held_drew (S := (fun w' => (w'.cell? ⟨g, k, none⟩ = some (.int .i64 lk) ∧ w'.cell? ⟨g, i, none⟩ = some (.int .i64 li) ∧ w'.cell? ⟨bb, oo + i * 8, none⟩ = some (.int .i64 ti.id) ∧ w'.cell? ⟨bb, oo + i * 8 + 1, none⟩ = some (ui) ∧ w'.cell? ⟨bb, oo + i * 8 + 2, none⟩ = some (.int .i64 ti.lv) ∧ w'.cell? ⟨bb, oo + i * 8 + 3, none⟩ = some (.string ti.cl) ∧ w'.cell? ⟨bb, oo + i * 8 + 4, none⟩ = some (.string ti.nm) ∧ w'.cell? ⟨bb, oo + i * 8 + 5, none⟩ = some (.bool ti.st) ∧ w'.cell? ⟨bb, oo + i * 8 + 6, none⟩ = some (.int .i64 ti.wt) ∧ w'.cell? ⟨bb, oo + i * 8 + 7, none⟩ = some (.int .i64 ti.ds) ∧ w'.cell? ⟨bb, oo + k * 8, none⟩ = some (.int .i64 tk.id) ∧ w'.cell? ⟨bb, oo + k * 8 + 1, none⟩ = some (uk) ∧ w'.cell? ⟨bb, oo + k * 8 + 2, none⟩ = some (.int .i64 tk.lv) ∧ w'.cell? ⟨bb, oo + k * 8 + 3, none⟩ = some (.string tk.cl) ∧ w'.cell? ⟨bb, oo + k * 8 + 4, none⟩ = some (.string tk.nm) ∧ w'.cell? ⟨bb, oo + k * 8 + 5, none⟩ = some (.bool tk.st) ∧ w'.cell? ⟨bb, oo + k * 8 + 6, none⟩ = some (.int .i64 tk.wt) ∧ w'.cell? ⟨bb, oo + k * 8 + 7, none⟩ = some (.int .i64 tk.ds)) ∧ Has w [(g, (L2.map (Value.int .i64) ++ rest))] w')) (by kernel_rfl) (HS2.out _ X0) (fun hHeld => ?_)
          generalize wr.drew = w5 at *
          clear hH
          refine tbA [0, 1, 2, 3, 4, 5] ?_
          refine tkA (.slice (some ⟨g, 0, none⟩) n vc) (oi := ⟨some 31, .move (.tmp 3), 22, _, _, none⟩) ?_
          simp only [Act.put, pA, pB, pC]
          refine tkA (.int .i64 k) (oi := ⟨some 32, .move (.tmp 7), 3, _, _, none⟩) ?_
          simp only [Act.put, pA, pB, pC]
          refine tkA (.pointer (some ⟨g, k, none⟩)) (oi := ⟨some 33, .indexAddr 22 (.tmp 31) (.tmp 32), 0, _, _, none⟩) ?_
          simp only [Act.put, pA, pB, pC]
          refine tkA (.int .i64 lk) (oi := ⟨some 34, .load 3 (.tmp 33), 3, _, _, none⟩) ?_
          simp only [Act.put, pA, pB, pC]
          refine tkA (.slice (some ⟨g, 0, none⟩) n vc) (oi := ⟨some 35, .move (.tmp 3), 22, _, _, none⟩) ?_
          simp only [Act.put, pA, pB, pC]
          refine tkA (.int .i64 i) (oi := ⟨some 36, .move (.tmp 6), 3, _, _, none⟩) ?_
          simp only [Act.put, pA, pB, pC]
          refine teA ?_
          refine tlA #[true, true, true, true, true, true, false, false, false, false, false, false, false, false, false, false, false, false, false, false] ?_
          refine tbA [6, 7, 8, 9] ?_
          refine tkA (.pointer (some ⟨g, i, none⟩)) (oi := ⟨some 37, .indexAddr 22 (.tmp 35) (.tmp 36), 0, _, _, none⟩) ?_
          simp only [Act.put, pA, pB, pC]
          refine tkA (.int .i64 li) (oi := ⟨some 38, .load 3 (.tmp 37), 3, _, _, none⟩) ?_
          simp only [Act.put, pA, pB, pC]
          refine tkA (.bool true) (oi := ⟨some 39, .binOp .lss 3 (.tmp 34) (.tmp 38) 3, 4, _, _, none⟩) ?_
          simp only [Act.put, pA, pB, pC]
          refine tkA (.bool true) (oi := ⟨some 40, .move (.tmp 39), 4, _, _, none⟩) ?_
          simp only [Act.put, pA, pB, pC]
          refine teA ?_
          refine tlA #[true, true, true, true, true, true, true, true, true, true, false, false, false, false, false, false, false, false, false, false] ?_
          refine tbA [10, 11, 12, 13, 14, 15] ?_
          refine tkA (.slice (some ⟨bb, oo, none⟩) n wc) (oi := ⟨some 41, .move (.tmp 0), 23, _, _, some (9, true)⟩) ?_
          simp only [Act.put, pA, pB, pC]
          refine tkA (.int .i64 i) (oi := ⟨some 42, .move (.tmp 6), 3, _, _, some (9, true)⟩) ?_
          simp only [Act.put, pA, pB, pC]
          refine tkA (.pointer (some ⟨bb, oo + i * 8, none⟩)) (oi := ⟨some 43, .indexAddr 23 (.tmp 41) (.tmp 42), 0, _, _, some (9, true)⟩) ?_
          simp only [Act.put, pA, pB, pC]
          refine tkA (.agg #[.int .i64 ti.id, ui, .int .i64 ti.lv, .string ti.cl, .string ti.nm, .bool ti.st, .int .i64 ti.wt, .int .i64 ti.ds]) (oi := ⟨some 44, .load 44 (.tmp 43), 44, _, _, some (9, true)⟩) ?_
          simp only [Act.put, pA, pB, pC]
          refine tkA (.slice (some ⟨bb, oo, none⟩) n wc) (oi := ⟨some 45, .move (.tmp 0), 23, _, _, some (9, true)⟩) ?_
          simp only [Act.put, pA, pB, pC]
          refine tkA (.int .i64 k) (oi := ⟨some 46, .move (.tmp 7), 3, _, _, some (9, true)⟩) ?_
          simp only [Act.put, pA, pB, pC]
          refine teA ?_
          refine tlA #[true, true, true, true, true, true, true, true, true, true, true, true, true, true, true, true, false, false, false, false] ?_
          refine tbA [16, 17] ?_
          refine tkA (.pointer (some ⟨bb, oo + k * 8, none⟩)) (oi := ⟨some 47, .indexAddr 23 (.tmp 45) (.tmp 46), 0, _, _, some (9, true)⟩) ?_
          simp only [Act.put, pA, pB, pC]
          refine tkA (.agg #[.int .i64 tk.id, uk, .int .i64 tk.lv, .string tk.cl, .string tk.nm, .bool tk.st, .int .i64 tk.wt, .int .i64 tk.ds]) (oi := ⟨some 48, .load 44 (.tmp 47), 44, _, _, some (9, true)⟩) ?_
          simp only [Act.put, pA, pB, pC]
          refine teA ?_
          refine tlA #[true, true, true, true, true, true, true, true, true, true, true, true, true, true, true, true, true, true, false, false] ?_
          refine trA [18] ?_
          refine AllReadyH.cons (o := ⟨some 49, .call { callee := .value (.func 21), args := #[.tmp 44, .tmp 48], argTypes := #[44, 44] }, 4, _, _, some (9, true)⟩) rfl (fun K hK => ?_) AllReadyH.nil
          go_simp
          go_at_call 21
          refine (Has.call X0 (rjoined_is ti tk ui uk jb HJ.out _ (RI.out.later X0.low) (RK.out.later X0.low))).mono ?_
          rintro e w6 ⟨rfl, X1⟩
          go_wp2_with fail
          clear hHeld
          refine hK.out _ _ (HS2.out _ X1) (fun hHeld => ?_)
          clear hK K
          try simp only [pA, pB, pC]
          refine tlA #[true, true, true, true, true, true, true, true, true, true, true, true, true, true, true, true, true, true, true, false] ?_
          refine tbA [19] ?_
          refine tkA (.bool jb) (oi := ⟨some 50, .pick (.tmp 40) (.tmp 49) (.const (.bool false)), 4, _, _, none⟩) ?_
          simp only [Act.put, pA, pB, pC]
          refine teA ?_
          refine tlA #[true, true, true, true, true, true, true, true, true, true, true, true, true, true, true, true, true, true, true, true] ?_
          refine wpAnyH_done (by kernel_rfl) ?_ _
          clear hHeld HS2 X0
          cases jb
          ·go_wp2_with fail
           go_roundw
           case rel => exact ⟨k + 1, b, L2, by omega, by go_num, rfl, Lib.hid (HP.out.keep HLI.out HLK.out (.inr HJJ.out)), LabW.of_has HLN.out X1⟩
           case measure => simp [RowKit.intOf]; omega
          ·have k1 := X1.fact (.head _) (i := k) HMK.out
           have f1 := X1.free (.head _) (i := i) HMI.out
           have k2 := X1.fact (.head _) (i := i) HMI.out
           have XE := X1.set i (by rw [List.length_append, List.length_map]; have := HIL.out; omega) (.int .i64 lk)
           rw [set_app HIL.out] at XE
           clear X1
           go_wp2_with fail
           go_roundw
           case rel => exact ⟨k + 1, true, L2.set i lk, by omega, by go_num, rfl, Lib.hid (HP.out.put HLI.out HLK.out bl HJJ.out), LabW.of_has rfl XE⟩
           case measure => simp [RowKit.intOf]; omega
         ·have HS2 := Lib.hid (show ∀ w', Has w [(g, (L2.map (Value.int .i64) ++ rest))] w' → (w'.cell? ⟨g, k, none⟩ = some (.int .i64 lk) ∧ w'.cell? ⟨g, i, none⟩ = some (.int .i64 li) ∧ w'.cell? ⟨bb, oo + i * 8, none⟩ = some (.int .i64 ti.id) ∧ w'.cell? ⟨bb, oo + i * 8 + 1, none⟩ = some (ui) ∧ w'.cell? ⟨bb, oo + i * 8 + 2, none⟩ = some (.int .i64 ti.lv) ∧ w'.cell? ⟨bb, oo + i * 8 + 3, none⟩ = some (.string ti.cl) ∧ w'.cell? ⟨bb, oo + i * 8 + 4, none⟩ = some (.string ti.nm) ∧ w'.cell? ⟨bb, oo + i * 8 + 5, none⟩ = some (.bool ti.st) ∧ w'.cell? ⟨bb, oo + i * 8 + 6, none⟩ = some (.int .i64 ti.wt) ∧ w'.cell? ⟨bb, oo + i * 8 + 7, none⟩ = some (.int .i64 ti.ds) ∧ w'.cell? ⟨bb, oo + k * 8, none⟩ = some (.int .i64 tk.id) ∧ w'.cell? ⟨bb, oo + k * 8 + 1, none⟩ = some (uk) ∧ w'.cell? ⟨bb, oo + k * 8 + 2, none⟩ = some (.int .i64 tk.lv) ∧ w'.cell? ⟨bb, oo + k * 8 + 3, none⟩ = some (.string tk.cl) ∧ w'.cell? ⟨bb, oo + k * 8 + 4, none⟩ = some (.string tk.nm) ∧ w'.cell? ⟨bb, oo + k * 8 + 5, none⟩ = some (.bool tk.st) ∧ w'.cell? ⟨bb, oo + k * 8 + 6, none⟩ = some (.int .i64 tk.wt) ∧ w'.cell? ⟨bb, oo + k * 8 + 7, none⟩ = some (.int .i64 tk.ds)) ∧ Has w [(g, (L2.map (Value.int .i64) ++ rest))] w' from fun w' h => ⟨⟨h.fact (.head _) (i := k) (HMK.out), h.fact (.head _) (i := i) (HMI.out), (h.low.cell (World.block_lt_of_cell? w _ a0.out)).trans a0.out, (h.low.cell (World.block_lt_of_cell? w _ a1.out)).trans a1.out, (h.low.cell (World.block_lt_of_cell? w _ a2.out)).trans a2.out, (h.low.cell (World.block_lt_of_cell? w _ a3.out)).trans a3.out, (h.low.cell (World.block_lt_of_cell? w _ a4.out)).trans a4.out, (h.low.cell (World.block_lt_of_cell? w _ a5.out)).trans a5.out, (h.low.cell (World.block_lt_of_cell? w _ a6.out)).trans a6.out, (h.low.cell (World.block_lt_of_cell? w _ a7.out)).trans a7.out, (h.low.cell (World.block_lt_of_cell? w _ HBK.out.1)).trans HBK.out.1, (h.low.cell (World.block_lt_of_cell? w _ HBK.out.2.1)).trans HBK.out.2.1, (h.low.cell (World.block_lt_of_cell? w _ HBK.out.2.2.1)).trans HBK.out.2.2.1, (h.low.cell (World.block_lt_of_cell? w _ HBK.out.2.2.2.1)).trans HBK.out.2.2.2.1, (h.low.cell (World.block_lt_of_cell? w _ HBK.out.2.2.2.2.1)).trans HBK.out.2.2.2.2.1, (h.low.cell (World.block_lt_of_cell? w _ HBK.out.2.2.2.2.2.1)).trans HBK.out.2.2.2.2.2.1, (h.low.cell (World.block_lt_of_cell? w _ HBK.out.2.2.2.2.2.2.1)).trans HBK.out.2.2.2.2.2.2.1, (h.low.cell (World.block_lt_of_cell? w _ HBK.out.2.2.2.2.2.2.2)).trans HBK.out.2.2.2.2.2.2.2⟩, h⟩)
          go_upto_region 15 with fail
          have X0 := hH.drew
          refine wp_region_held_drew (S := (fun w' => (w'.cell? ⟨g, k, none⟩ = some (.int .i64 lk) ∧ w'.cell? ⟨g, i, none⟩ = some (.int .i64 li) ∧ w'.cell? ⟨bb, oo + i * 8, none⟩ = some (.int .i64 ti.id) ∧ w'.cell? ⟨bb, oo + i * 8 + 1, none⟩ = some (ui) ∧ w'.cell? ⟨bb, oo + i * 8 + 2, none⟩ = some (.int .i64 ti.lv) ∧ w'.cell? ⟨bb, oo + i * 8 + 3, none⟩ = some (.string ti.cl) ∧ w'.cell? ⟨bb, oo + i * 8 + 4, none⟩ = some (.string ti.nm) ∧ w'.cell? ⟨bb, oo + i * 8 + 5, none⟩ = some (.bool ti.st) ∧ w'.cell? ⟨bb, oo + i * 8 + 6, none⟩ = some (.int .i64 ti.wt) ∧ w'.cell? ⟨bb, oo + i * 8 + 7, none⟩ = some (.int .i64 ti.ds) ∧ w'.cell? ⟨bb, oo + k * 8, none⟩ = some (.int .i64 tk.id) ∧ w'.cell? ⟨bb, oo + k * 8 + 1, none⟩ = some (uk) ∧ w'.cell? ⟨bb, oo + k * 8 + 2, none⟩ = some (.int .i64 tk.lv) ∧ w'.cell? ⟨bb, oo + k * 8 + 3, none⟩ = some (.string tk.cl) ∧ w'.cell? ⟨bb, oo + k * 8 + 4, none⟩ = some (.string tk.nm) ∧ w'.cell? ⟨bb, oo + k * 8 + 5, none⟩ = some (.bool tk.st) ∧ w'.cell? ⟨bb, oo + k * 8 + 6, none⟩ = some (.int .i64 tk.wt) ∧ w'.cell? ⟨bb, oo + k * 8 + 7, none⟩ = some (.int .i64 tk.ds)) ∧ Has w [(g, (L2.map (Value.int .i64) ++ rest))] w')) (by kernel_rfl) (HS2.out _ X0) (fun hHeld => ?_)
          generalize wr.drew = w5 at *
          clear hH
          refine tbA [0, 1, 2, 3, 4, 5] ?_
          refine tkA (.slice (some ⟨g, 0, none⟩) n vc) (oi := ⟨some 31, .move (.tmp 3), 22, _, _, none⟩) ?_
          simp only [Act.put, pA, pB, pC]
          refine tkA (.int .i64 k) (oi := ⟨some 32, .move (.tmp 7), 3, _, _, none⟩) ?_
          simp only [Act.put, pA, pB, pC]
          refine tkA (.pointer (some ⟨g, k, none⟩)) (oi := ⟨some 33, .indexAddr 22 (.tmp 31) (.tmp 32), 0, _, _, none⟩) ?_
          simp only [Act.put, pA, pB, pC]
          refine tkA (.int .i64 lk) (oi := ⟨some 34, .load 3 (.tmp 33), 3, _, _, none⟩) ?_
          simp only [Act.put, pA, pB, pC]
          refine tkA (.slice (some ⟨g, 0, none⟩) n vc) (oi := ⟨some 35, .move (.tmp 3), 22, _, _, none⟩) ?_
          simp only [Act.put, pA, pB, pC]
          refine tkA (.int .i64 i) (oi := ⟨some 36, .move (.tmp 6), 3, _, _, none⟩) ?_
          simp only [Act.put, pA, pB, pC]
          refine teA ?_
          refine tlA #[true, true, true, true, true, true, false, false, false, false, false, false, false, false, false, false, false, false, false, false] ?_
          refine tbA [6, 7, 8, 9] ?_
          refine tkA (.pointer (some ⟨g, i, none⟩)) (oi := ⟨some 37, .indexAddr 22 (.tmp 35) (.tmp 36), 0, _, _, none⟩) ?_
          simp only [Act.put, pA, pB, pC]
          refine tkA (.int .i64 li) (oi := ⟨some 38, .load 3 (.tmp 37), 3, _, _, none⟩) ?_
          simp only [Act.put, pA, pB, pC]
          refine tkA (.bool false) (oi := ⟨some 39, .binOp .lss 3 (.tmp 34) (.tmp 38) 3, 4, _, _, none⟩) ?_
          simp only [Act.put, pA, pB, pC]
          refine tkA (.bool false) (oi := ⟨some 40, .move (.tmp 39), 4, _, _, none⟩) ?_
          simp only [Act.put, pA, pB, pC]
          refine teA ?_
          refine tlA #[true, true, true, true, true, true, true, true, true, true, false, false, false, false, false, false, false, false, false, false] ?_
          refine tbA [10, 11, 12, 13, 14, 15] ?_
          refine wpAnyT_skip (oi := ⟨some 41, .move (.tmp 0), 23, _, _, some (9, true)⟩) rfl (fun _ _ _ h => h) (by rfl) (by assumption) ?_
          simp only [Act.put, pA, pB, pC]
          refine wpAnyT_skip (oi := ⟨some 42, .move (.tmp 6), 3, _, _, some (9, true)⟩) rfl (fun _ _ _ h => h) (by rfl) (by assumption) ?_
          simp only [Act.put, pA, pB, pC]
          refine wpAnyT_skip (oi := ⟨some 43, .indexAddr 23 (.tmp 41) (.tmp 42), 0, _, _, some (9, true)⟩) rfl (fun _ _ _ h => h) (by rfl) (by assumption) ?_
          simp only [Act.put, pA, pB, pC]
          refine wpAnyT_skip (oi := ⟨some 44, .load 44 (.tmp 43), 44, _, _, some (9, true)⟩) rfl (fun _ _ _ h => h) (by rfl) (by assumption) ?_
          simp only [Act.put, pA, pB, pC]
          refine wpAnyT_skip (oi := ⟨some 45, .move (.tmp 0), 23, _, _, some (9, true)⟩) rfl (fun _ _ _ h => h) (by rfl) (by assumption) ?_
          simp only [Act.put, pA, pB, pC]
          refine wpAnyT_skip (oi := ⟨some 46, .move (.tmp 7), 3, _, _, some (9, true)⟩) rfl (fun _ _ _ h => h) (by rfl) (by assumption) ?_
          simp only [Act.put, pA, pB, pC]
          refine teA ?_
          refine tlA #[true, true, true, true, true, true, true, true, true, true, true, true, true, true, true, true, false, false, false, false] ?_
          refine tbA [16, 17] ?_
          refine wpAnyT_skip (oi := ⟨some 47, .indexAddr 23 (.tmp 45) (.tmp 46), 0, _, _, some (9, true)⟩) rfl (fun _ _ _ h => h) (by rfl) (by assumption) ?_
          simp only [Act.put, pA, pB, pC]
          refine wpAnyT_skip (oi := ⟨some 48, .load 44 (.tmp 47), 44, _, _, some (9, true)⟩) rfl (fun _ _ _ h => h) (by rfl) (by assumption) ?_
          simp only [Act.put, pA, pB, pC]
          refine teA ?_
          refine tlA #[true, true, true, true, true, true, true, true, true, true, true, true, true, true, true, true, true, true, false, false] ?_
          refine tbA [18] ?_
          refine wpAnyT_skip (oi := ⟨some 49, .call { callee := .value (.func 21), args := #[.tmp 44, .tmp 48], argTypes := #[44, 44] }, 4, _, _, some (9, true)⟩) rfl (fun _ _ _ h => h) (by rfl) (by assumption) ?_
          simp only [Act.put, pA, pB, pC]
          refine teA ?_
          refine tlA #[true, true, true, true, true, true, true, true, true, true, true, true, true, true, true, true, true, true, true, false] ?_
          refine tbA [19] ?_
          refine tkA (.bool false) (oi := ⟨some 50, .pick (.tmp 40) (.tmp 49) (.const (.bool false)), 4, _, _, none⟩) ?_
          simp only [Act.put, pA, pB, pC]
          refine teA ?_
          refine tlA #[true, true, true, true, true, true, true, true, true, true, true, true, true, true, true, true, true, true, true, true] ?_
          refine wpAnyH_done (by kernel_rfl) ?_ _
          clear hHeld HS2
          go_wp2_with fail
          go_roundw
          case rel => exact ⟨k + 1, b, L2, by omega, by go_num, rfl, Lib.hid (HP.out.keep HLI.out HLK.out (.inl bl)), LabW.of_has HLN.out X0⟩
          case measure => simp [RowKit.intOf]; omega
        ·obtain rfl : k = n := by omega
         have HV3 := Lib.hid HV2
         clear HV2
         go_wp2_with fail
         go_roundw
         case rel => exact ⟨i + 1, b, L2, by omega, by go_num, rfl, Lib.hid (by have h := HP.out; rw [← HLn.out, ← h.len] at h; exact h.row), HV3⟩
         case measure => simp [RowKit.intOf]; omega
      ·obtain rfl : i = n := by omega
       have hL1 : L1.length = i := by rw [HP1.out.len]; exact HLn.out
       have hs : b1 = true → sumL L1 < sumL L := HP1.out.yes
       have HM1 := Lib.hid (labS_is HV1.out hL1)
       have HM0 := Lib.hid (labS_is HV0.out HLn.out)
       have HDn := Lib.hid (show b1 = false → LabOk ws L1 from fun h => by
        subst h
        have h := HP1.out
        rw [← hL1] at h
        exact h.done)
       go_wp2_with fail
       go_roundw
       case rel => exact ⟨b1, L1, rfl, hL1, Lib.hid HP1.out.lab, HV1, fun h => Lib.hid (HDn.out h)⟩
       case measure =>
        rw [HM1.out, HM0.out]
        cases b1
        ·have := (HP1.out.no rfl).1
         subst this
         simp [boolN]
        ·have := hs rfl
         simp [boolN]; omega

end Go.Proofs.YtoaldbjcpfkcjaaGreat
