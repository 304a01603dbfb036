/- Right networks: two ways of one level have no point in common but ends of both; the order of ways plays no part in the groups. -/
import Derived.Test.YtoaldbjcpfkcjaaGreatfTy
namespace Go.Proofs.YtoaldbjcpfkcjaaGreat
open Go.RowKit Go.Lib Geo

theorem mK_ne {l : List (Int × Int)} (hl : l.all rtP = true) {i j : Nat} (hi : i + 1 < l.length) (hj : j + 1 < l.length) {p : Int × Int} (hp : rtP p = true)
  (h : on (pt l i).1 (pt l i).2 (pt l (i + 1)).1 (pt l (i + 1)).2 p.1 p.2 = true) (k : on (pt l j).1 (pt l j).2 (pt l (j + 1)).1 (pt l (j + 1)).2 p.1 p.2 = true) : 1 ≤ rcX l l i j :=
 meet_one (rt_in (rtp_at hl (by omega))) (rt_in (rtp_at hl (by omega))) (rt_in (rtp_at hl (by omega))) (rt_in (rtp_at hl (by omega))) (rt_in hp) h k
/-- A point of a simple line that is its first or last one by what it is, is so by where it stands. -/
theorem simple_at {l : List (Int × Int)} (hl : l.all rtP = true) (hs : simpleR l = true) {n : Nat} (hn : n < l.length) (h : pt l n = pt l 0 ∨ pt l n = pt l (l.length - 1)) : n = 0 ∨ n + 1 = l.length := by
 rw [simpleR_iff] at hs
 by_cases h0 : n = 0
 ·exact .inl h0
 by_cases h1 : n + 1 = l.length
 ·exact .inr h1
 exfalso
 have step : ∀ i j, i < j → j + 1 < l.length → ∀ p, rtP p = true → on (pt l i).1 (pt l i).2 (pt l (i + 1)).1 (pt l (i + 1)).2 p.1 p.2 = true → on (pt l j).1 (pt l j).2 (pt l (j + 1)).1 (pt l (j + 1)).2 p.1 p.2 = true → j = i + 1 ∨ closedP l = true ∧ i = 0 ∧ j + 2 = l.length := by
  intro i j hij hj p hp q1 q2
  have hm := (hs j hj).2 i hij
  have h2 := mK_ne hl (i := i) (j := j) (by omega) hj hp q1 q2
  have h3 : mK l i j = rcX l l i j := rfl
  rw [← h3, hm] at h2
  unfold wantP at h2
  split at h2
  ·assumption
  ·omega
 have cl : closedP l = true → pt l 0 = pt l (l.length - 1) := by
  intro hc
  unfold closedP at hc
  rw [Bool.and_eq_true] at hc
  exact of_decide_eq_true hc.2
 rcases h with h | h
 ·-- the first one
  have hd0 := (hs 0 (by omega)).1
  rcases Nat.lt_or_ge n 2 with q | q
  ·obtain rfl : n = 1 := by omega
   exact hd0 h.symm
  ·rcases step 0 n (by omega) (by omega) (pt l n) (rtp_at hl hn) (by rw [h]; exact on_left _ _ _ _) (on_left _ _ _ _) with e | ⟨e1, e2, e3⟩
   ·omega
   ·have := (hs n (by omega)).1
    apply this
    rw [h, cl e1, show n + 1 = l.length - 1 by omega]
 ·-- the last one
  by_cases q : n + 2 = l.length
  ·have := (hs n (by omega)).1
   apply this
   rw [h, show n + 1 = l.length - 1 by omega]
  ·have e1 : on (pt l (n - 1)).1 (pt l (n - 1)).2 (pt l (n - 1 + 1)).1 (pt l (n - 1 + 1)).2 (pt l n).1 (pt l n).2 = true := by
    rw [show n - 1 + 1 = n by omega]; exact on_right _ _ _ _
   have e2 : on (pt l (l.length - 2)).1 (pt l (l.length - 2)).2 (pt l (l.length - 2 + 1)).1 (pt l (l.length - 2 + 1)).2 (pt l n).1 (pt l n).2 = true := by
    rw [h, show l.length - 2 + 1 = l.length - 1 by omega]; exact on_right _ _ _ _
   rcases step (n - 1) (l.length - 2) (by omega) (by omega) (pt l n) (rtp_at hl hn) e1 e2 with e | ⟨e1, e2, e3⟩
   ·omega
   ·have := (hs 0 (by omega)).1
    apply this
    rw [cl e1, ← h, show n = 0 + 1 by omega]
/-- A point of a line on another one that it does not cross is an end of both. -/
theorem fine_on {l m : List (Int × Int)} (hl : l.all rtP = true) (hm : m.all rtP = true) (hs : simpleR l = true) (h2 : 2 ≤ l.length) (hc : crossP l m = false) {n j : Nat} (hn : n < l.length) (hj : j + 1 < m.length)
  (ho : onOf (pt m j).1 (pt m j).2 (pt m (j + 1)).1 (pt m (j + 1)).2 (pt l n).1 (pt l n).2 = true) : (n = 0 ∨ n + 1 = l.length) ∧ (pt l n = pt m 0 ∨ pt l n = pt m (m.length - 1)) := by
 rw [cross_same] at hc
 have hP := rtp_at hl hn
 rw [on_in (rt_in (rtp_at hm (by omega))) (rt_in (rtp_at hm hj)) (rt_in hP)] at ho
 obtain ⟨i, hi, hoi⟩ : ∃ i, i + 1 < l.length ∧ on (pt l i).1 (pt l i).2 (pt l (i + 1)).1 (pt l (i + 1)).2 (pt l n).1 (pt l n).2 = true := by
  by_cases q : n + 1 < l.length
  ·exact ⟨n, q, on_left _ _ _ _⟩
  ·refine ⟨n - 1, by omega, ?_⟩
   rw [show n - 1 + 1 = n by omega]; exact on_right _ _ _ _
 have i1 := rt_in (rtp_at hl (show i < l.length by omega))
 have i2 := rt_in (rtp_at hl hi)
 have i3 := rt_in (rtp_at hm (show j < m.length by omega))
 have i4 := rt_in (rtp_at hm hj)
 have hx : 1 ≤ rcX l m i j := meet_one i1 i2 i3 i4 (rt_in hP) hoi ho
 have hx2 : 0 ≤ rcX l m i j ∧ rcX l m i j ≤ 2 := meet_bd i1 i2 i3 i4
 have hI : rcI l m i j = false := by
  cases q : rcI l m i j
  ·rfl
  ·rw [rcross_iff.2 ⟨hl, hm, i, j, hi, hj, q⟩] at hc; cases hc
 unfold rcI at hI
 rw [Bool.or_eq_false_iff, decide_eq_false_iff_not, Bool.and_eq_false_iff, decide_eq_false_iff_not, Bool.not_eq_false'] at hI
 have h1 : rcX l m i j = 1 := by omega
 have hE : endR l m i j = true := hI.2.resolve_left (fun h => h h1)
 obtain ⟨p, e1, e2, e3⟩ := endR_iff.1 hE
 have hp : rtP p = true := by rcases e1 with rfl | rfl <;> exact rtp_at hl (by omega)
 unfold bothP at e3
 rw [Bool.and_eq_true, on_in i1 i2 (rt_in hp), on_in i3 i4 (rt_in hp)] at e3
 have hpe : p = pt l n := by
  apply Classical.byContradiction
  intro hne
  have : rcX l m i j = 2 := meet_more i1 i2 i3 i4 (rt_in hp) (rt_in hP) (fun q => hne (pt_eq.2 q)) e3.1 e3.2 hoi ho
  omega
 subst hpe
 exact ⟨simple_at hl hs hn e1, e2⟩

/-! ### the order of ways plays no part -/
theorem grp_moved {n : Nat} {C D : Nat → Nat → Bool} {f g : Nat → Int} (E : Equ C) (s t : Nat → Nat) (hs : ∀ i, i < n → s i < n) (ht : ∀ i, i < n → t i < n) (hst : ∀ i, i < n → s (t i) = i) (hts : ∀ i, i < n → t (s i) = i)
  (h : ∀ i j, i < n → j < n → D i j = C (s i) (s j)) (hf : ∀ i, i < n → g i = f (s i)) : grp n D g = grp n C f := by
 have E' : Equ (fun i j => C (s i) (s j)) := ⟨fun i => E.r _, fun h => E.s h, fun h g => E.t h g⟩
 rw [grp_congr (D := fun i j => C (s i) (s j)) (g := fun i => f (s i)) h hf]
 clear h hf
 unfold grp
 apply sortG_of_perm
 unfold cls
 rw [List.map_map, List.map_map]
 have inj : ∀ i j, i < n → j < n → s i = s j → i = j := fun i j hi hj e => by rw [← hts i hi, e, hts j hj]
 let F : Nat → List Int := fun r => sortI (((List.range n).filter fun k => C r k).map f)
 have hF : ∀ r q, C r q = true → F r = F q := by
  intro r q hq
  show sortI _ = sortI _
  congr 2
  refine List.filter_congr fun k _ => ?_
  rw [Bool.eq_iff_iff]
  exact ⟨fun h => E.t (E.s hq) h, fun h => E.t hq h⟩
 have hG : ∀ r, r < n → sortI (((List.range n).filter fun k => C (s r) (s k)).map fun i => f (s i)) = F (s r) := by
  intro r hr
  apply sortI_of_perm
  have : ((List.range n).filter fun k => C (s r) (s k)).map (fun i => f (s i)) = (((List.range n).filter fun k => C (s r) (s k)).map s).map f := by rw [List.map_map]; rfl
  rw [this]
  apply List.Perm.map
  refine (List.perm_ext_iff_of_nodup ?_ (List.nodup_range.filter _)).2 fun q => ?_
  ·unfold List.Nodup
   rw [List.pairwise_map]
   refine List.Pairwise.imp_of_mem ?_ (List.nodup_range.filter _)
   intro a b ha hb hab e
   exact hab (inj a b (List.mem_range.1 (List.mem_filter.1 ha).1) (List.mem_range.1 (List.mem_filter.1 hb).1) e)
  ·rw [List.mem_map, List.mem_filter, List.mem_range]
   constructor
   ·rintro ⟨k, hk, rfl⟩
    obtain ⟨k1, k2⟩ := List.mem_filter.1 hk
    exact ⟨hs k (List.mem_range.1 k1), k2⟩
   ·rintro ⟨q1, q2⟩
    exact ⟨t q, List.mem_filter.2 ⟨List.mem_range.2 (ht q q1), by rw [hst q q1]; exact q2⟩, hst q q1⟩
 -- the least of the class
 have hrep : ∀ i, ∃ j, i < n → j ∈ reps n C ∧ C j i = true := by
  intro i
  by_cases hi : i < n
  ·obtain ⟨j, h1, h2, -⟩ := rep_of (n := n) E hi
   exact ⟨j, fun _ => ⟨h1, h2⟩⟩
  ·exact ⟨0, fun h => absurd h hi⟩
 obtain ⟨R, hR⟩ := Classical.axiomOfChoice hrep
 have h1 : (reps n fun i j => C (s i) (s j)).map ((fun b => sortI (List.map (fun i => f (s i)) b)) ∘ fun i => List.filter (fun k => C (s i) (s k)) (List.range n)) = ((reps n fun i j => C (s i) (s j)).map fun r => R (s r)).map F := by
  rw [List.map_map]
  refine List.map_congr_left fun r hr => ?_
  have hrn := (reps_mem.1 hr).1
  exact (hG r hrn).trans (hF _ _ (hR (s r) (hs r hrn)).2).symm
 rw [h1]
 refine List.Perm.map F ?_
 refine (List.perm_ext_iff_of_nodup ?_ (reps_nodup n C)).2 fun q => ?_
 ·unfold List.Nodup
  rw [List.pairwise_map]
  refine List.Pairwise.imp_of_mem ?_ (reps_nodup n _)
  intro a b ha hb hab e
  have an := (reps_mem.1 ha).1
  have bn := (reps_mem.1 hb).1
  have a2 := (hR (s a) (hs a an)).2
  have b2 := (hR (s b) (hs b bn)).2
  rw [e] at a2
  exact hab (rep_one E' ha hb (E.t (E.s a2) b2))
 ·rw [List.mem_map]
  constructor
  ·rintro ⟨r, hr, rfl⟩
   exact (hR (s r) (hs r (reps_mem.1 hr).1)).1
  ·intro hq
   have hqn := (reps_mem.1 hq).1
   obtain ⟨r, h1, h2, -⟩ := rep_of (n := n) E' (ht q hqn)
   have hrn := (reps_mem.1 h1).1
   simp only [hst q hqn] at h2
   refine ⟨r, h1, rep_one E (hR (s r) (hs r hrn)).1 hq (E.t (hR (s r) (hs r hrn)).2 h2)⟩
theorem eqv_perm {κ : Type} [DecidableEq κ] {es fs : List (κ × κ)} (h : ∀ p, p ∈ es ↔ p ∈ fs) (k l : κ) : eqv es k l = eqv fs k l := by
 have key : ∀ {es fs : List (κ × κ)}, (∀ p, p ∈ es → p ∈ fs) → eqv es k l = true → eqv fs k l = true := fun {es fs} h q =>
  eqv_least (T := fun a b => eqv fs a b = true) (fun a => eqv_refl fs a) (fun a b h => eqv_symm fs h) (fun a b c h g => eqv_trans fs h g) (fun p hp => eqv_edge (h p hp)) q
 rw [Bool.eq_iff_iff]
 exact ⟨key fun p => (h p).1, key fun p => (h p).2⟩
theorem CC_edges (ws : List Wy) (i j : Nat) : CC ws i j = (decide (i = j) || (match lab ws i, lab ws j with | some a, some b => eqv (edges ws) a b | _, _ => false)) := rfl
theorem grpW_moved {ws vs : List Wy} (hl : vs.length = ws.length) (s t : Nat → Nat) (hs : ∀ i, i < ws.length → s i < ws.length) (ht : ∀ i, i < ws.length → t i < ws.length) (hst : ∀ i, i < ws.length → s (t i) = i) (hts : ∀ i, i < ws.length → t (s i) = i)
  (h : ∀ i, i < ws.length → vs[i]? = ws[s i]?) : grpW vs = grpW ws := by
 unfold grpW
 rw [hl]
 have he : ∀ p, p ∈ edges vs ↔ p ∈ edges ws := by
  intro p
  rw [mem_edges, mem_edges]
  constructor
  ·rintro ⟨i, a, h1, h2, h3⟩
   have hi := (List.getElem?_eq_some_iff.1 h1).1
   rw [hl] at hi
   exact ⟨s i, a, by rw [← h i hi]; exact h1, h2, h3⟩
  ·rintro ⟨i, a, h1, h2, h3⟩
   have hi := (List.getElem?_eq_some_iff.1 h1).1
   exact ⟨t i, a, by rw [h _ (ht i hi), hst i hi]; exact h1, h2, h3⟩
 refine grp_moved (CC_equ ws) s t hs ht hst hts (fun i j hi hj => ?_) fun i hi => ?_
 ·have li : lab vs i = lab ws (s i) := by unfold lab; rw [h i hi]
  have lj : lab vs j = lab ws (s j) := by unfold lab; rw [h j hj]
  rw [CC_edges, CC_edges, li, lj]
  have e1 : decide (i = j) = decide (s i = s j) := decide_eq_decide.2 ⟨fun e => by rw [e], fun e => by rw [← hts i hi, e, hts j hj]⟩
  rw [e1]
  congr 1
  cases lab ws (s i) <;> cases lab ws (s j) <;> try rfl
  exact eqv_perm he _ _
 ·unfold idsOf; rw [h i hi]
theorem grpW_turned (ws : List Wy) (n : Nat) (hn : n ≤ ws.length) : grpW (ws.drop n ++ ws.take n) = grpW ws := by
 have hl : (ws.drop n ++ ws.take n).length = ws.length := by rw [List.length_append, List.length_drop, List.length_take]; omega
 refine grpW_moved hl (fun i => if i < ws.length - n then n + i else i - (ws.length - n)) (fun i => if i < n then ws.length - n + i else i - n) ?_ ?_ ?_ ?_ ?_
 ·intro i hi; split <;> omega
 ·intro i hi; split <;> omega
 ·intro i hi; split <;> split <;> omega
 ·intro i hi; split <;> split <;> omega
 ·intro i hi
  split
  ·rw [List.getElem?_append_left (by rw [List.length_drop]; assumption), List.getElem?_drop]
  ·rw [List.getElem?_append_right (by rw [List.length_drop]; omega), List.length_drop, List.getElem?_take, if_pos (by omega)]
theorem chkN_at {ws : List Wy} (h : checkN ws = 0) {i : Nat} {a : Wy} (ha : ws[i]? = some a) : chkW a (ws.take i) = 0 := by
 unfold checkN at h
 have hi := (List.getElem?_eq_some_iff.1 ha).1
 split at h
 ·cases h
 ·have h1 : chkTo ws (i + 1) = 0 := by
   apply Classical.byContradiction
   intro q
   exact q ((chkTo_stays q hi).symm.trans h)
  have h0 : chkTo ws i = 0 := by
   apply Classical.byContradiction
   intro q
   exact q ((chkTo_stays q (Nat.le_succ i)).symm.trans h1)
  rw [← chkTo_next h0 ha]; exact h1
theorem chkP_ok {l : List (Int × Int)} (h : chkP l (simpleP l) = 0) : 2 ≤ l.length ∧ l.all rtP = true ∧ simpleR l = true := by
 unfold chkP at h
 split at h
 ·cases h
 ·split at h
  ·cases h
  ·split at h
   ·cases h
   ·rename_i h1 h2 h3
    have h2 : l.all rtP = true := by simpa using h2
    refine ⟨by omega, h2, ?_⟩
    rw [← simple_same h2]; simpa using h3
/-- What Check says of two ways of one level. -/
theorem chkN_pair {ws : List Wy} (h : checkN ws = 0) {i k : Nat} (hk : k < i) {a b : Wy} (ha : ws[i]? = some a) (hb : ws[k]? = some b) :
  chkP a.ln (simpleP a.ln) = 0 ∧ chkP b.ln (simpleP b.ln) = 0 ∧ (a.lv = b.lv → crossP a.ln b.ln = false) := by
 have key : ∀ {j : Nat} {x : Wy}, ws[j]? = some x → chkP x.ln (simpleP x.ln) = 0 := by
  intro j x hx
  have q := chkN_at h hx
  unfold chkW at q
  split at q
  ·cases q
  ·split at q
   ·cases q
   ·split at q
    ·rename_i q1; exact absurd q q1
    ·rename_i q1; exact Decidable.not_not.1 q1
 refine ⟨key ha, key hb, fun e => ?_⟩
 have q := chkN_at h ha
 unfold chkW at q
 split at q
 ·cases q
 ·split at q
  ·cases q
  ·split at q
   ·rename_i q1; exact absurd q q1
   ·split at q
    ·cases q
    ·split at q
     ·cases q
     ·rename_i q1
      have hm : b ∈ ws.take i := List.mem_of_getElem? (i := k) (by rw [List.getElem?_take, if_pos hk]; exact hb)
      have := List.any_eq_false.1 (by simpa using q1 : (ws.take i).any (sameLv a.lv a.ln) = false) b hm
      unfold sameLv at this
      cases qc : crossP b.ln a.ln
      ·rw [cross_swap]; exact qc
      ·exact absurd (by rw [qc, e]; simp) this
end Go.Proofs.YtoaldbjcpfkcjaaGreat
