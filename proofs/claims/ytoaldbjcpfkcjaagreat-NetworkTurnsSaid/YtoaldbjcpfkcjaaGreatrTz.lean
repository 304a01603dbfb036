/- Turning ways changes neither Check nor joints nor groups. -/
import Derived.Test.YtoaldbjcpfkcjaaGreatrTy
namespace Go.Proofs.YtoaldbjcpfkcjaaGreat
open Go.RowKit Go.Lib

theorem chk_tn {l : List (Int × Int)} (h : In20 l) (q0 q1 q2 : Int) (r : Bool) : chkP (tnl q0 q1 q2 r l) (simpleP (tnl q0 q1 q2 r l)) = chkP l (simpleP l) := by
  unfold tnl
  rw [chk_mvd (mvd20 (rvl_20 h r) q0 q1 q2)]
  unfold rvl
  split
  · exact chk_rev (in20_rt h)
  · rfl
theorem lcross_tn {l m : List (Int × Int)} (hl : In20 l) (hm : In20 m) (q0 q1 q2 : Int) (r s : Bool) : crossP (tnl q0 q1 q2 r l) (tnl q0 q1 q2 s m) = crossP l m := by
  unfold tnl
  rw [cross_mvd (mvd20 (rvl_20 hl r) q0 q1 q2) (mvd20 (rvl_20 hm s) q0 q1 q2)]
  have e : ∀ (r : Bool) (x y : List (Int × Int)), crossP (rvl r x) y = crossP x y := fun r x y => by
    unfold rvl
    split
    · exact cross_rev x y
    · rfl
  rw [e, cross_swap (rvl s m) l, e, cross_swap l m]
/-- The ways with their lines turned. -/
def tnWs (q0 q1 q2 : Int) : List (Wy × Bool) → List Wy := List.map fun p => tnW q0 q1 q2 p.2 p.1
theorem chkTo_tn {ps : List (Wy × Bool)} (h : ∀ p ∈ ps, In20 p.1.ln) (q0 q1 q2 : Int) : ∀ k, k ≤ ps.length → chkTo (tnWs q0 q1 q2 ps) k = chkTo (ps.map Prod.fst) k
  | 0, _ => rfl
  | k + 1, hk => by
    have ih := chkTo_tn h q0 q1 q2 k (by omega)
    unfold chkTo
    rw [ih]
    have e1 : (tnWs q0 q1 q2 ps)[k]? = some (tnW q0 q1 q2 ps[k].2 ps[k].1) := by unfold tnWs; rw [List.getElem?_map, List.getElem?_eq_getElem (by omega)]; rfl
    have e2 : (ps.map Prod.fst)[k]? = some ps[k].1 := by rw [List.getElem?_map, List.getElem?_eq_getElem (by omega)]; rfl
    rw [e1, e2]
    simp only
    have hk20 := h ps[k] (List.getElem_mem _)
    generalize ps[k] = p at *
    have t1 : (tnWs q0 q1 q2 ps).take k = tnWs q0 q1 q2 (ps.take k) := by unfold tnWs; rw [List.map_take]
    have t2 : (ps.map Prod.fst).take k = (ps.take k).map Prod.fst := by rw [List.map_take]
    rw [t1, t2]
    have hb : ∀ p ∈ ps.take k, In20 p.1.ln := fun p hp => h p (List.mem_of_mem_take hp)
    generalize ps.take k = bs at *
    have a1 : (tnWs q0 q1 q2 bs).any (sameId p.1.id) = (bs.map Prod.fst).any (sameId p.1.id) := by
      unfold tnWs
      rw [List.any_map, List.any_map]
      rfl
    have a2 : (tnWs q0 q1 q2 bs).any (sameLv p.1.lv (tnl q0 q1 q2 p.2 p.1.ln)) = (bs.map Prod.fst).any (sameLv p.1.lv p.1.ln) := by
      unfold tnWs
      rw [List.any_map, List.any_map]
      rw [Bool.eq_iff_iff, List.any_eq_true, List.any_eq_true]
      have key : ∀ q ∈ bs, (sameLv p.1.lv (tnl q0 q1 q2 p.2 p.1.ln) (tnW q0 q1 q2 q.2 q.1)) = sameLv p.1.lv p.1.ln q.1 := fun q hq => by
        unfold sameLv
        show (_ && crossP (tnl q0 q1 q2 q.2 q.1.ln) (tnl q0 q1 q2 p.2 p.1.ln)) = _
        rw [lcross_tn (hb q hq) hk20]
        rfl
      constructor
      · rintro ⟨q, hq, e⟩
        exact ⟨q, hq, (key q hq).symm.trans e⟩
      · rintro ⟨q, hq, e⟩
        exact ⟨q, hq, (key q hq).trans e⟩
    unfold chkW
    rw [show (tnW q0 q1 q2 p.2 p.1).id = p.1.id from rfl, show (tnW q0 q1 q2 p.2 p.1).lv = p.1.lv from rfl, show (tnW q0 q1 q2 p.2 p.1).wt = p.1.wt from rfl, show (tnW q0 q1 q2 p.2 p.1).ln = tnl q0 q1 q2 p.2 p.1.ln from rfl, a1, a2, chk_tn hk20]
theorem checkN_tn {ps : List (Wy × Bool)} (h : ∀ p ∈ ps, In20 p.1.ln) (q0 q1 q2 : Int) : checkN (tnWs q0 q1 q2 ps) = checkN (ps.map Prod.fst) := by
  have e : (tnWs q0 q1 q2 ps).length = (ps.map Prod.fst).length := by unfold tnWs; simp
  unfold checkN
  rw [e, List.length_map, chkTo_tn h q0 q1 q2 _ (Nat.le_refl _)]
def kk (o : Option (Int × Int)) (lv : Int) : Key := match o with
  | none => (0, 0, 0)
  | some p => (p.1, p.2, lv)
theorem fst_kk (a : Wy) : fstK a = kk a.ln.head? a.lv := by
  unfold fstK kk
  cases a.ln <;> rfl
theorem lst_kk (a : Wy) : lstK a = kk a.ln.getLast? a.lv := rfl
theorem mvP_inj {q0 q1 q2 : Int} {p q : Int × Int} (hp : (0 ≤ p.1 ∧ p.1 ≤ 20) ∧ (0 ≤ p.2 ∧ p.2 ≤ 20)) (hq : (0 ≤ q.1 ∧ q.1 ≤ 20) ∧ (0 ≤ q.2 ∧ q.2 ≤ 20)) (u v : Int) :
    decide (kk (some (mvP q0 q1 q2 p)) u = kk (some (mvP q0 q1 q2 q)) v) = decide (kk (some p) u = kk (some q) v) := by
  obtain ⟨h1, -, hm⟩ := mvP_small20 q0 q1 q2 hp
  obtain ⟨h2, -, -⟩ := mvP_small20 q0 q1 q2 hq
  have := Geo.eq_tm hm h1 h2
  unfold kk
  rw [decide_eq_decide]
  simp only [Prod.mk.injEq]
  rw [← and_assoc, ← and_assoc, this]
theorem join_tn {a b : Wy} (ha : In20 a.ln) (hb : In20 b.ln) (q0 q1 q2 : Int) (r s : Bool) : joinP (tnW q0 q1 q2 r a) (tnW q0 q1 q2 s b) = joinP a b := by
  have len : ∀ (r : Bool) (l : List (Int × Int)), (tnl q0 q1 q2 r l).length = l.length := fun r l => by unfold tnl rvl; split <;> simp
  have g1 : goes (tnW q0 q1 q2 r a) = goes a := by unfold goes; rw [show (tnW q0 q1 q2 r a).ln = tnl q0 q1 q2 r a.ln from rfl, len]
  have g2 : goes (tnW q0 q1 q2 s b) = goes b := by unfold goes; rw [show (tnW q0 q1 q2 s b).ln = tnl q0 q1 q2 s b.ln from rfl, len]
  unfold joinP
  rw [g1, g2]
  by_cases hga : goes a = true
  · by_cases hgb : goes b = true
    · rw [hga, hgb]
      have na : a.ln ≠ [] := by unfold goes at hga; have := of_decide_eq_true hga; exact List.length_pos_iff.1 this
      have nb : b.ln ≠ [] := by unfold goes at hgb; have := of_decide_eq_true hgb; exact List.length_pos_iff.1 this
      obtain ⟨p, hp⟩ : ∃ p, a.ln.head? = some p := ⟨_, List.head?_eq_some_head na⟩
      obtain ⟨p', hp'⟩ : ∃ p, a.ln.getLast? = some p := ⟨_, List.getLast?_eq_some_getLast na⟩
      obtain ⟨q, hq⟩ : ∃ p, b.ln.head? = some p := ⟨_, List.head?_eq_some_head nb⟩
      obtain ⟨q', hq'⟩ : ∃ p, b.ln.getLast? = some p := ⟨_, List.getLast?_eq_some_getLast nb⟩
      have bp := ha p (List.mem_of_head? hp)
      have bp' := ha p' (List.mem_of_getLast? hp')
      have bq := hb q (List.mem_of_head? hq)
      have bq' := hb q' (List.mem_of_getLast? hq')
      have hd : ∀ (r : Bool) (l : List (Int × Int)), (tnl q0 q1 q2 r l).head? = (if r = true then l.getLast? else l.head?).map (mvP q0 q1 q2) := fun r l => by
        unfold tnl rvl
        split <;> simp [List.head?_map]
      have la : ∀ (r : Bool) (l : List (Int × Int)), (tnl q0 q1 q2 r l).getLast? = (if r = true then l.head? else l.getLast?).map (mvP q0 q1 q2) := fun r l => by
        unfold tnl rvl
        split <;> simp [List.getLast?_map]
      rw [fst_kk, lst_kk, fst_kk, lst_kk, fst_kk a, lst_kk a, fst_kk b, lst_kk b]
      rw [show (tnW q0 q1 q2 r a).ln = tnl q0 q1 q2 r a.ln from rfl, show (tnW q0 q1 q2 s b).ln = tnl q0 q1 q2 s b.ln from rfl, show (tnW q0 q1 q2 r a).lv = a.lv from rfl, show (tnW q0 q1 q2 s b).lv = b.lv from rfl, hd, hd, la, la, hp, hp', hq, hq']
      cases r <;> cases s <;> simp only [Bool.false_eq_true, if_false, if_true, Option.map_some]
      · rw [mvP_inj bp bq, mvP_inj bp bq', mvP_inj bp' bq, mvP_inj bp' bq']
      · rw [mvP_inj bp bq, mvP_inj bp bq', mvP_inj bp' bq, mvP_inj bp' bq']
        generalize decide (kk (some p) a.lv = kk (some q) b.lv) = x1
        generalize decide (kk (some p) a.lv = kk (some q') b.lv) = x2
        generalize decide (kk (some p') a.lv = kk (some q) b.lv) = x3
        generalize decide (kk (some p') a.lv = kk (some q') b.lv) = x4
        cases x1 <;> cases x2 <;> cases x3 <;> cases x4 <;> rfl
      · rw [mvP_inj bp bq, mvP_inj bp bq', mvP_inj bp' bq, mvP_inj bp' bq']
        generalize decide (kk (some p) a.lv = kk (some q) b.lv) = x1
        generalize decide (kk (some p) a.lv = kk (some q') b.lv) = x2
        generalize decide (kk (some p') a.lv = kk (some q) b.lv) = x3
        generalize decide (kk (some p') a.lv = kk (some q') b.lv) = x4
        cases x1 <;> cases x2 <;> cases x3 <;> cases x4 <;> rfl
      · rw [mvP_inj bp bq, mvP_inj bp bq', mvP_inj bp' bq, mvP_inj bp' bq']
        generalize decide (kk (some p) a.lv = kk (some q) b.lv) = x1
        generalize decide (kk (some p) a.lv = kk (some q') b.lv) = x2
        generalize decide (kk (some p') a.lv = kk (some q) b.lv) = x3
        generalize decide (kk (some p') a.lv = kk (some q') b.lv) = x4
        cases x1 <;> cases x2 <;> cases x3 <;> cases x4 <;> rfl
    · rw [show goes b = false by simpa using hgb]; simp
  · rw [show goes a = false by simpa using hga]; simp
theorem grpW_tn {ps : List (Wy × Bool)} (h : ∀ p ∈ ps, In20 p.1.ln) (q0 q1 q2 : Int) : grpW (tnWs q0 q1 q2 ps) = grpW (ps.map Prod.fst) := by
  have e1 : ∀ i : Nat, (tnWs q0 q1 q2 ps)[i]? = (ps[i]?).map fun p => tnW q0 q1 q2 p.2 p.1 := fun i => by unfold tnWs; rw [List.getElem?_map]
  have e2 : ∀ i : Nat, (ps.map Prod.fst)[i]? = (ps[i]?).map Prod.fst := fun i => by rw [List.getElem?_map]
  refine grpW_congr (by unfold tnWs; simp) (fun i j => ?_) fun i _ => ?_
  · unfold JJ
    rw [e1, e1, e2, e2]
    cases hi : ps[i]? with
    | none => rfl
    | some a =>
      cases hj : ps[j]? with
      | none => rfl
      | some b => exact join_tn (h a (List.mem_of_getElem? hi)) (h b (List.mem_of_getElem? hj)) q0 q1 q2 a.2 b.2
  · unfold idsOf
    rw [e1, e2]
    cases ps[i]? <;> rfl

end Go.Proofs.YtoaldbjcpfkcjaaGreat
