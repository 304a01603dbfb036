/- Two stops are joined. -/
import Derived.Test.YtoaldbjcpfkcjaaGreatcEc
namespace Go.Proofs.YtoaldbjcpfkcjaaGreat
open Go.RowKit Go.Lib

section
variable {P : Program} {ops : Array Oper} {Q : Exit → Act → World → Prop} {md : Region.Mode} {S : World → Prop} {z : Nat}
theorem wpAnyZ_first2 {i m : Nat} {oi oz om : Oper} {v : Value} (hi : ops[i]? = some oi) (hoz : ops[z]? = some oz) (hom : ops[m]? = some om) (hzm : oz.after.any (fun e => Region.binds md e && e.on == m) = true) (hmi : om.after.any (fun e => Region.binds md e && e.on == i) = true) (hsel : ∀ (j : Nat) (o : Oper) cs b, ops[j]? = some o → o.op ≠ .select cs b)
  (hQ : ∀ c a w, Q (.panic c) (a.put oi.dst v) w → Q (.panic c) a w) (hzne : z ≠ i) :
  ∀ (fuel : Nat) (listed : Array Bool) (a : Act) (w : World),
   (∀ j oj, ops[j]? = some oj → j ≠ i → listed.getD j true = false → (∀ e ∈ oj.after, Region.binds md e = true → e.on ≠ i) → oi.apart ops oj = true) →
   i ∈ Region.ready md ops listed → YieldsIf P ops S oi v a → listed.getD z true = false → listed.getD m true = false → S w →
   wpAnyZ P md ops Q S z fuel (listed.setIfInBounds i true) (a.put oi.dst v) w → wpAnyZ P md ops Q S z (fuel + 1) listed a w := by
 intro fuel
 induction fuel with
 | zero =>
  intro listed a w _ hr hy hz hm0 hS H
  refine ⟨fun h => (by rw [h] at hr; cases hr), fun j hj => ?_⟩
  by_cases hji : j = i
  ·subst hji; exact hy.wpOp hi hS ⟨.inl hS, H⟩
  ·have := ready_mono hj hji
   rw [H.1] at this
   cases this
 | succ fuel ih =>
  intro listed a w hfree hr hy hz hm0 hS H
  refine ⟨fun h => (by rw [h] at hr; cases hr), fun j hj => ?_⟩
  by_cases hji : j = i
  ·subst hji; exact hy.wpOp hi hS ⟨.inl hS, H⟩
  ·have h1 := H.2 j (ready_mono hj hji)
   obtain ⟨hjun, oj, hoj, hall⟩ := mem_ready.1 hj
   have hnot : ∀ e ∈ oj.after, Region.binds md e = true → e.on ≠ i := fun e he hb heq => by
    have h1 := hall e he hb
    have h0 := (mem_ready.1 hr).1
    rw [heq] at h1
    rcases Nat.lt_or_ge i listed.size with h' | h'
    ·simp [h'] at h0 h1; rw [h0] at h1; cases h1
    ·simp [Array.getElem?_eq_none h'] at h1
   have hjz : j ≠ z := fun e => by
    subst e
    rw [hoz] at hoj
    cases hoj
    obtain ⟨q, hq, hb⟩ := Array.any_eq_true.1 hzm
    simp only [Bool.and_eq_true, beq_iff_eq] at hb
    have := hall _ (Array.getElem_mem hq) hb.1
    rw [hb.2] at this
    rcases Nat.lt_or_ge m listed.size with h' | h'
    ·simp [h'] at this hm0; rw [hm0] at this; cases this
    ·simp [Array.getElem?_eq_none h'] at this
   have hjm : j ≠ m := fun e => by
    subst e
    rw [hom] at hoj
    cases hoj
    obtain ⟨q, hq, hb⟩ := Array.any_eq_true.1 hmi
    simp only [Bool.and_eq_true, beq_iff_eq] at hb
    exact hnot _ (Array.getElem_mem hq) hb.1 hb.2
   have h2 := wpOp_putIf hoj (hfree j oj hoj hji hjun hnot) (fun cs b => hsel i oi cs b hi) (fun cs b => hsel j oj cs b hoj) hQ hy h1
   have hfree' : ∀ k ok, ops[k]? = some ok → k ≠ i → (listed.setIfInBounds j true).getD k true = false →
     (∀ e ∈ ok.after, Region.binds md e = true → e.on ≠ i) → oi.apart ops ok = true := fun k ok hk hki hun hno => by
    refine hfree k ok hk hki ?_ hno
    by_cases hjk : j = k
    ·subst hjk; exact hjun
    ·rw [getD_set_ne true hjk] at hun; exact hun
   refine wpOp_mono (fun a' w' h3 => ?_) h2
   have hS' : S w' := by
    rcases h3.2.1 with h | h
    ·exact h
    ·rw [getD_set_ne true hjz, getD_set_ne true (Ne.symm hzne), hz] at h; cases h
   refine ⟨.inl hS', ih (listed.setIfInBounds j true) a' w' hfree' (ready_mono hr (Ne.symm hji)) h3.1 (by rw [getD_set_ne true hjz]; exact hz) (by rw [getD_set_ne true hjm]; exact hm0) hS' ?_⟩
   rw [Array.setIfInBounds_comm _ _ hji]
   exact h3.2.2

theorem wpAnyZ_take2 (m : Nat) {i : Nat} {oi oz om : Oper} {v : Value} {fuel : Nat} {listed : Array Bool} {a : Act} {w : World} (hi : ops[i]? = some oi) (hoz : ops[z]? = some oz) (hom : ops[m]? = some om)
  (hb : (oz.after.any (fun e => Region.binds md e && e.on == m) && (om.after.any (fun e => Region.binds md e && e.on == i) && (!(listed.getD m true) && (Region.noSelect ops && (Region.free md ops listed i && ((Region.ready md ops listed).contains i && (!(listed.getD z true) && !(z == i)))))))) = true)
  (hQ : ∀ c a w, Q (.panic c) (a.put oi.dst v) w → Q (.panic c) a w) (hw : Region.wanted oi (yielded ops a.tmps) = true) (hS : S w) (hy : ∀ w, S w → (execOp a.eval oi).run P w = .ok (.value v) w)
  (h : wpAnyZ P md ops Q S z fuel (listed.setIfInBounds i true) (a.put oi.dst v) w) : wpAnyZ P md ops Q S z (fuel + 1) listed a w := by
 simp only [Bool.and_eq_true, Bool.not_eq_true', beq_eq_false_iff_ne] at hb
 obtain ⟨h1, h1a, h1b, h2, h3, h4, h5, h6⟩ := hb
 exact wpAnyZ_first2 hi hoz hom h1 h1a (Region.noSelect_spec h2) hQ h6 fuel listed a w (Region.free_spec hi h3) (by simpa using h4) (Or.inl ⟨hw, hy⟩) h5 h1b hS h
end
theorem addF_ok {F : Forest} {R : Key → Key} {es : List (Key × Key)} (h : FOk F R es) (hK : FK F) {k : Key} (hk : K64 k) : ∃ R', FOk (addF F k) R' es ∧ FK (addF F k) ∧ (∀ q, F q ≠ none → addF F k q ≠ none) ∧ addF F k k ≠ none := by
 unfold addF
 by_cases e : F k = none
 ·rw [if_pos e]
  refine ⟨_, h.add e, fun q u n hq => ?_, fun q hq => ?_, by unfold FSet; rw [if_pos rfl]; simp⟩
  ·unfold FSet at hq
   by_cases f : q = k
   ·rw [if_pos f] at hq; cases hq; exact hk
   ·rw [if_neg f] at hq; exact hK _ _ _ hq
  ·unfold FSet
   by_cases f : q = k
   ·rw [if_pos f]; simp
   ·rw [if_neg f]; exact hq
 ·rw [if_neg e]; exact ⟨R, h, hK, fun _ h => h, e⟩
theorem FK_set {F : Forest} (h : FK F) {k u : Key} {n : Int} (hu : K64 u) : FK (FSet F k (u, n)) := by
 intro q v m hq
 unfold FSet at hq
 by_cases f : q = k
 ·rw [if_pos f] at hq; cases hq; exact hu
 ·rw [if_neg f] at hq; exact h _ _ _ hq
theorem F_set {F : Forest} {k q : Key} {v : Key × Int} (h : F q ≠ none) : FSet F k v q ≠ none := by
 unfold FSet
 by_cases f : q = k
 ·rw [if_pos f]; simp
 ·rw [if_neg f]; exact h
/-- What joining two stops leaves. -/
def JoinR (F : Forest) (k l : Key) (es : List (Key × Key)) (w0 w : World) (b n : Nat) (w' : World) : Prop :=
 ∃ F' R', FOk F' R' ((k, l) :: es) ∧ FK F' ∧ (∀ q, F q ≠ none → F' q ≠ none) ∧ F' k ≠ none ∧ F' l ≠ none ∧ MapR w0 w b (n + 4) F' w'
attribute [local go_sem ↓] run_keyeq run_keyne
set_option maxRecDepth 100000 in
set_option maxHeartbeats 4000000 in
theorem fjoin_any {F : Forest} {R : Key → Key} {es : List (Key × Key)} (hF : FOk F R es) (hFK : FK F) {w0 w : World} {b n : Nat} {k l : Key} (hk : K64 k) (hl : K64 l) (L : Below w0.heap.size w0 w) (hlo : w0.heap.size ≤ b) (M : MapV w b n (FV F)) (hn : n + 10 < maxLen) :
  Calls Tryz.prog 37 #[.map (some b), kv k, kv l] w fun e w' => e = .returned (.tuple #[]) ∧ JoinR F k l es w0 w b n w' := by
 have HA : Hid (∃ F2 R2, addF (addF F k) l = F2 ∧ FOk F2 R2 es ∧ FK F2 ∧ (∀ q, F q ≠ none → F2 q ≠ none) ∧ F2 k ≠ none ∧ F2 l ≠ none) := Lib.hid (by
  obtain ⟨R1, a1, a2, a3, a4⟩ := addF_ok hF hFK hk
  obtain ⟨R2, c1, c2, c3, c4⟩ := addF_ok a1 a2 hl
  exact ⟨_, R2, rfl, c1, c2, fun q hq => c3 q (a3 q hq), c3 k a4, c4⟩)
 obtain ⟨x0, x1, x2⟩ := k
 obtain ⟨y0, y1, y2⟩ := l
 unfold kv
 simp only
 have HKX := Lib.hid hk
 have HKY := Lib.hid hl
 have HN := Lib.hid hn
 clear hk hl hn hF hFK
 have H0 := ((HM.start L M.lt hlo).push [.int .i64 x0, .int .i64 x1, .int .i64 x2] 39).push [.int .i64 y0, .int .i64 y1, .int .i64 y2] 39
 simp only [size_alloc] at H0
 have M0 := (M.kept (World.grownBy_alloc w (.cells #[.int .i64 x0, .int .i64 x1, .int .i64 x2] 39) none) (by simp)).kept (World.grownBy_alloc _ (.cells #[.int .i64 y0, .int .i64 y1, .int .i64 y2] 39) none) (by simp)
 have HL := Lib.hid L
 have HLO := Lib.hid hlo
 clear L hlo M
 go_enter Tryz.func37, Tryz.ntmps37
 go_upto_region 1 with fail
 change HM w0 w b [(w.heap.size + 1, [.int .i64 y0, .int .i64 y1, .int .i64 y2]), (w.heap.size, [.int .i64 x0, .int .i64 x1, .int .i64 x2])] ((w.alloc (.cells #[.int .i64 x0, .int .i64 x1, .int .i64 x2] 39)).alloc (.cells #[.int .i64 y0, .int .i64 y1, .int .i64 y2] 39)) at H0
 change MapV ((w.alloc (.cells #[.int .i64 x0, .int .i64 x1, .int .i64 x2] 39)).alloc (.cells #[.int .i64 y0, .int .i64 y1, .int .i64 y2] 39)) b n (FV F) at M0
 generalize (w.alloc (.cells #[.int .i64 x0, .int .i64 x1, .int .i64 x2] 39)).alloc (.cells #[.int .i64 y0, .int .i64 y1, .int .i64 y2] 39) = w1 at *
 have k0 := H0.h.tail.fact (.head _) (i := 0) rfl
 have l0 := H0.h.fact (.head _) (i := 0) rfl
 have k1 := H0.h.tail.fact (.head _) (i := 1) rfl
 have l1 := H0.h.fact (.head _) (i := 1) rfl
 have k2 := H0.h.tail.fact (.head _) (i := 2) rfl
 have l2 := H0.h.fact (.head _) (i := 2) rfl
 have HC := Lib.hid (fadd_any H0.h.low HLO.out M0 HKX.out (by have := HN.out; omega))
 go_wp2_with fail
 refine HC.out.mono ?_
 rintro e w2 ⟨rfl, hr⟩
 clear k0 k1 k2 l0 l1 l2
 obtain ⟨g2, -, M1⟩ := hr
 have H1 := H0.upd g2
 clear HC M0 H0 g2
 have k0 := H1.h.tail.fact (.head _) (i := 0) rfl
 have l0 := H1.h.fact (.head _) (i := 0) rfl
 have k1 := H1.h.tail.fact (.head _) (i := 1) rfl
 have l1 := H1.h.fact (.head _) (i := 1) rfl
 have k2 := H1.h.tail.fact (.head _) (i := 2) rfl
 have l2 := H1.h.fact (.head _) (i := 2) rfl
 have HC := Lib.hid (fadd_any H1.h.low HLO.out M1 HKY.out (by have := HN.out; omega))
 go_wp2_with fail
 refine HC.out.mono ?_
 rintro e w3 ⟨rfl, hr⟩
 clear k0 k1 k2 l0 l1 l2
 obtain ⟨g3, -, M2⟩ := hr
 have H2 := H1.upd g3
 clear HC M1 H1 g3
 obtain ⟨N, hN⟩ : ∃ N, N = n + 1 + 1 := ⟨_, rfl⟩
 rw [← hN] at M2
 have HNN := Lib.hid hN
 clear hN
 obtain ⟨F2, R2, hF2⟩ := HA.out
 rw [hF2.1] at M2
 have HF2 := Lib.hid hF2
 clear hF2
 obtain ⟨⟨a0, a1, a2⟩, ha⟩ : ∃ r, R2 (x0, x1, x2) = r := ⟨_, rfl⟩
 obtain ⟨⟨b0, b1, b2⟩, hb⟩ : ∃ r, R2 (y0, y1, y2) = r := ⟨_, rfl⟩
 have HRA := Lib.hid (ha ▸ HF2.out.2.1.root _ HF2.out.2.2.2.2.1)
 have HRB := Lib.hid (hb ▸ HF2.out.2.1.root _ HF2.out.2.2.2.2.2)
 have HSA := Lib.hid ha
 have HSB := Lib.hid hb
 clear ha hb
 go_upto_region 3 with fail
 have HS3 := Lib.hid (show ∀ w', HM w0 w b [(w.heap.size + 1, [.int .i64 y0, .int .i64 y1, .int .i64 y2]), (w.heap.size, [.int .i64 x0, .int .i64 x1, .int .i64 x2])] w' → MapV w' b N (FV F2) → (w'.cell? ⟨w.heap.size, 0, none⟩ = some (.int .i64 x0) ∧ w'.cell? ⟨w.heap.size, 1, none⟩ = some (.int .i64 x1) ∧ w'.cell? ⟨w.heap.size, 2, none⟩ = some (.int .i64 x2) ∧ w'.cell? ⟨w.heap.size + 1, 0, none⟩ = some (.int .i64 y0) ∧ w'.cell? ⟨w.heap.size + 1, 1, none⟩ = some (.int .i64 y1) ∧ w'.cell? ⟨w.heap.size + 1, 2, none⟩ = some (.int .i64 y2)) ∧ HM w0 w b [(w.heap.size + 1, [.int .i64 y0, .int .i64 y1, .int .i64 y2]), (w.heap.size, [.int .i64 x0, .int .i64 x1, .int .i64 x2])] w' ∧ MapV w' b N (FV F2) from fun w' h m => ⟨⟨h.h.tail.fact (.head _) (i := 0) rfl, h.h.tail.fact (.head _) (i := 1) rfl, h.h.tail.fact (.head _) (i := 2) rfl, h.h.fact (.head _) (i := 0) rfl, h.h.fact (.head _) (i := 1) rfl, h.h.fact (.head _) (i := 2) rfl⟩, h, m⟩)
 refine plain_Z 6 (fun w' => (w'.cell? ⟨w.heap.size, 0, none⟩ = some (.int .i64 x0) ∧ w'.cell? ⟨w.heap.size, 1, none⟩ = some (.int .i64 x1) ∧ w'.cell? ⟨w.heap.size, 2, none⟩ = some (.int .i64 x2) ∧ w'.cell? ⟨w.heap.size + 1, 0, none⟩ = some (.int .i64 y0) ∧ w'.cell? ⟨w.heap.size + 1, 1, none⟩ = some (.int .i64 y1) ∧ w'.cell? ⟨w.heap.size + 1, 2, none⟩ = some (.int .i64 y2)) ∧ HM w0 w b [(w.heap.size + 1, [.int .i64 y0, .int .i64 y1, .int .i64 y2]), (w.heap.size, [.int .i64 x0, .int .i64 x1, .int .i64 x2])] w' ∧ MapV w' b N (FV F2)) (by kernel_rfl) ?_
 have X0 := H2.drew
 have N0 : MapV w3.drew b N (FV F2) := M2
 have hHeld := HS3.out _ X0 N0
 generalize w3.drew = w4 at *
 clear H2 M2
 refine wpAnyZ_take (i := 0) (oi := ⟨some 12, .move (.tmp 0), 69, _, _, none⟩) (oz := ⟨none, .store 39 (.tmp 4) (.tmp 14), 0, _, _, none⟩) (v := .map (some b)) rfl rfl (by kernel_rfl) (fun _ _ _ h => h) (by rfl) (by assumption) (fun wS hSw => ?_) ?_
 ·(try dsimp only at hSw); go_simp
 simp only [Act.put, pA, pB, pC]
 refine wpAnyZ_take (i := 1) (oi := ⟨some 13, .load 39 (.tmp 4), 39, _, _, none⟩) (oz := ⟨none, .store 39 (.tmp 4) (.tmp 14), 0, _, _, none⟩) (v := .agg #[.int .i64 x0, .int .i64 x1, .int .i64 x2]) rfl rfl (by kernel_rfl) (fun _ _ _ h => h) (by rfl) (by assumption) (fun wS hSw => ?_) ?_
 ·(try dsimp only at hSw); go_simp
 simp only [Act.put, pA, pB, pC]
 refine wpAnyZ_listed #[true, true, false, false, false, false, false, false] (by kernel_rfl) ?_
 refine wpAnyZ_take2 5 (i := 3) (oi := ⟨some 15, .move (.tmp 0), 69, _, _, none⟩) (oz := ⟨none, .store 39 (.tmp 4) (.tmp 14), 0, _, _, none⟩) (om := ⟨some 17, .call { callee := .value (.func 39), args := #[.tmp 15, .tmp 16], argTypes := #[69, 39] }, 39, _, _, none⟩) (v := .map (some b)) rfl rfl rfl (by kernel_rfl) (fun _ _ _ h => h) (by rfl) (by assumption) (fun wS hSw => ?_) ?_
 ·(try dsimp only at hSw); go_simp
 simp only [Act.put, pA, pB, pC]
 refine wpAnyZ_take2 5 (i := 4) (oi := ⟨some 16, .load 39 (.tmp 5), 39, _, _, none⟩) (oz := ⟨none, .store 39 (.tmp 4) (.tmp 14), 0, _, _, none⟩) (om := ⟨some 17, .call { callee := .value (.func 39), args := #[.tmp 15, .tmp 16], argTypes := #[69, 39] }, 39, _, _, none⟩) (v := .agg #[.int .i64 y0, .int .i64 y1, .int .i64 y2]) rfl rfl rfl (by kernel_rfl) (fun _ _ _ h => h) (by rfl) (by assumption) (fun wS hSw => ?_) ?_
 ·(try dsimp only at hSw); go_simp
 simp only [Act.put, pA, pB, pC]
 refine wpAnyZ_listed #[true, true, false, true, true, false, false, false] (by kernel_rfl) ?_
 refine wpAnyZ_one (i := 2) (o := ⟨some 14, .call { callee := .value (.func 39), args := #[.tmp 12, .tmp 13], argTypes := #[69, 39] }, 39, _, _, none⟩) (by kernel_rfl) rfl (fun K hK => ?_)
 go_simp
 go_at_call 39
 refine (HM.call X0 (root_any HRA.out HF2.out.2.2.1 HKX.out N0)).mono ?_
 rintro e w5 ⟨rfl, X1, q1⟩
 have N1 := N0.later q1
 unfold kv
 simp only
 go_wp2_with fail
 try clear hHeld
 refine hK.out _ _ (HS3.out _ X1 N1) (fun hHeld => ?_)
 clear hK K
 try simp only [pA, pB, pC]
 refine wpAnyZ_listed #[true, true, true, true, true, false, false, false] (by kernel_rfl) ?_
 clear X0 N0 q1
 refine wpAnyZ_one (i := 5) (o := ⟨some 17, .call { callee := .value (.func 39), args := #[.tmp 15, .tmp 16], argTypes := #[69, 39] }, 39, _, _, none⟩) (by kernel_rfl) rfl (fun K hK => ?_)
 go_simp
 go_at_call 39
 refine (HM.call X1 (root_any HRB.out HF2.out.2.2.1 HKY.out N1)).mono ?_
 rintro e w6 ⟨rfl, X2, q2⟩
 have N2 := N1.later q2
 unfold kv
 simp only
 go_wp2_with fail
 try clear hHeld
 refine hK.out _ _ (HS3.out _ X2 N2) (fun hHeld => ?_)
 clear hK K
 try simp only [pA, pB, pC]
 refine wpAnyZ_listed #[true, true, true, true, true, true, false, false] (by kernel_rfl) ?_
 clear X1 N1 q2
 have NEA := Lib.hid (show b ≠ w.heap.size from X2.swap.ne)
 have NEB := Lib.hid (show b ≠ w.heap.size + 1 from X2.ne)
 clear HS3
 refine wpAnyZ_step (o := ⟨none, .store 39 (.tmp 4) (.tmp 14), 0, _, _, none⟩) (by kernel_rfl) (by decide) rfl (fun K hK => ?_)
 have s0 := X2.h.tail.fact (.head _) (i := 0) rfl
 have s1 := X2.h.tail.fact (.head _) (i := 1) rfl
 have s2 := X2.h.tail.fact (.head _) (i := 2) rfl
 have t0 := X2.h.tail.free (.head _) (i := 0) rfl
 have t1 := X2.h.tail.free (.head _) (i := 1) rfl
 have t2 := X2.h.tail.free (.head _) (i := 2) rfl
 go_simp
 have X3 : HM w0 w b [(w.heap.size + 1, [.int .i64 y0, .int .i64 y1, .int .i64 y2]), (w.heap.size, [.int .i64 a0, .int .i64 a1, .int .i64 a2])] (World.setCell (World.setCell (World.setCell w6 ⟨w.heap.size, 0, none⟩ (.int .i64 a0)) ⟨w.heap.size, 1, none⟩ (.int .i64 a1)) ⟨w.heap.size, 2, none⟩ (.int .i64 a2)) := (HM.set ((HM.set ((HM.set (X2.swap) 0 (by simp) (.int .i64 a0))) 1 (by simp) (.int .i64 a1))) 2 (by simp) (.int .i64 a2)).swap
 have N3 : MapV (World.setCell (World.setCell (World.setCell w6 ⟨w.heap.size, 0, none⟩ (.int .i64 a0)) ⟨w.heap.size, 1, none⟩ (.int .i64 a1)) ⟨w.heap.size, 2, none⟩ (.int .i64 a2)) b N (FV F2) := (MapV.setCell ((MapV.setCell ((MapV.setCell (N2) (a := ⟨w.heap.size, 0, none⟩) NEA.out (.int .i64 a0))) (a := ⟨w.heap.size, 1, none⟩) NEA.out (.int .i64 a1))) (a := ⟨w.heap.size, 2, none⟩) NEA.out (.int .i64 a2))
 generalize (World.setCell (World.setCell (World.setCell w6 ⟨w.heap.size, 0, none⟩ (.int .i64 a0)) ⟨w.heap.size, 1, none⟩ (.int .i64 a1)) ⟨w.heap.size, 2, none⟩ (.int .i64 a2)) = w7 at *
 clear s0 s1 s2 t0 t1 t2 X2 N2
 try clear hHeld
 refine hK.out _ _ ?_
 clear hK K
 try simp only [pA, pB, pC]
 refine tlA #[true, true, true, true, true, true, true, false] ?_
 have hHeld := True.intro
 refine trA [7] ?_
 refine AllReadyH.cons (o := ⟨none, .store 39 (.tmp 5) (.tmp 17), 0, _, _, none⟩) rfl (fun K hK => ?_) AllReadyH.nil
 have s0 := X3.h.fact (.head _) (i := 0) rfl
 have s1 := X3.h.fact (.head _) (i := 1) rfl
 have s2 := X3.h.fact (.head _) (i := 2) rfl
 have t0 := X3.h.free (.head _) (i := 0) rfl
 have t1 := X3.h.free (.head _) (i := 1) rfl
 have t2 := X3.h.free (.head _) (i := 2) rfl
 go_simp
 have X4 : HM w0 w b [(w.heap.size + 1, [.int .i64 b0, .int .i64 b1, .int .i64 b2]), (w.heap.size, [.int .i64 a0, .int .i64 a1, .int .i64 a2])] (World.setCell (World.setCell (World.setCell w7 ⟨w.heap.size + 1, 0, none⟩ (.int .i64 b0)) ⟨w.heap.size + 1, 1, none⟩ (.int .i64 b1)) ⟨w.heap.size + 1, 2, none⟩ (.int .i64 b2)) := (HM.set ((HM.set ((HM.set (X3) 0 (by simp) (.int .i64 b0))) 1 (by simp) (.int .i64 b1))) 2 (by simp) (.int .i64 b2))
 have N4 : MapV (World.setCell (World.setCell (World.setCell w7 ⟨w.heap.size + 1, 0, none⟩ (.int .i64 b0)) ⟨w.heap.size + 1, 1, none⟩ (.int .i64 b1)) ⟨w.heap.size + 1, 2, none⟩ (.int .i64 b2)) b N (FV F2) := (MapV.setCell ((MapV.setCell ((MapV.setCell (N3) (a := ⟨w.heap.size + 1, 0, none⟩) NEB.out (.int .i64 b0))) (a := ⟨w.heap.size + 1, 1, none⟩) NEB.out (.int .i64 b1))) (a := ⟨w.heap.size + 1, 2, none⟩) NEB.out (.int .i64 b2))
 generalize (World.setCell (World.setCell (World.setCell w7 ⟨w.heap.size + 1, 0, none⟩ (.int .i64 b0)) ⟨w.heap.size + 1, 1, none⟩ (.int .i64 b1)) ⟨w.heap.size + 1, 2, none⟩ (.int .i64 b2)) = w8 at *
 clear s0 s1 s2 t0 t1 t2 X3 N3
 clear hHeld
 refine hK.out _ _ (True.intro) (fun hHeld => ?_)
 clear hK K
 try simp only [pA, pB, pC]
 refine tlA #[true, true, true, true, true, true, true, true] ?_
 refine wpAnyH_done (by kernel_rfl) ?_ _
 refine Calm.normal ?_
 clear hHeld
 obtain ⟨ma, hma⟩ := HRA.out.root
 obtain ⟨mb, hmb⟩ := HRB.out.root
 have HMA := Lib.hid hma
 have HMB := Lib.hid hmb
 clear hma hmb
 have k0 := X4.h.tail.fact (.head _) (i := 0) rfl
 have l0 := X4.h.fact (.head _) (i := 0) rfl
 have k1 := X4.h.tail.fact (.head _) (i := 1) rfl
 have l1 := X4.h.fact (.head _) (i := 1) rfl
 have k2 := X4.h.tail.fact (.head _) (i := 2) rfl
 have l2 := X4.h.fact (.head _) (i := 2) rfl
 go_upto_region 4 with fail
 cases hq : keq a0 a1 a2 b0 b1 b2
 ·have HNE := Lib.hid (show (((a0, a1, a2) : Key) ≠ (b0, b1, b2)) from by unfold keq at hq; exact of_decide_eq_false hq)
  have HNE2 := Lib.hid (show (((b0, b1, b2) : Key) ≠ (a0, a1, a2)) from fun e => HNE.out e.symm)
  have HKA := Lib.hid (HF2.out.2.2.1 _ _ _ HMA.out)
  have HKB := Lib.hid (HF2.out.2.2.1 _ _ _ HMB.out)
  go_upto_region 5 with fail
  clear k0 k1 k2 l0 l1 l2
  have HS5 := Lib.hid (show ∀ w', HM w0 w b [(w.heap.size + 1, [.int .i64 b0, .int .i64 b1, .int .i64 b2]), (w.heap.size, [.int .i64 a0, .int .i64 a1, .int .i64 a2])] w' → MapV w' b N (FV F2) → (w'.cell? ⟨w.heap.size, 0, none⟩ = some (.int .i64 a0) ∧ w'.cell? ⟨w.heap.size, 1, none⟩ = some (.int .i64 a1) ∧ w'.cell? ⟨w.heap.size, 2, none⟩ = some (.int .i64 a2) ∧ w'.cell? ⟨w.heap.size + 1, 0, none⟩ = some (.int .i64 b0) ∧ w'.cell? ⟨w.heap.size + 1, 1, none⟩ = some (.int .i64 b1) ∧ w'.cell? ⟨w.heap.size + 1, 2, none⟩ = some (.int .i64 b2) ∧ (Instr.lookup 69 (.map (some b)) (.agg #[.int .i64 a0, .int .i64 a1, .int .i64 a2]) false).run Tryz.prog w' = .ok (.agg #[.int .i64 a0, .int .i64 a1, .int .i64 a2, .int .i64 ma]) w' ∧ (Instr.lookup 69 (.map (some b)) (.agg #[.int .i64 b0, .int .i64 b1, .int .i64 b2]) false).run Tryz.prog w' = .ok (.agg #[.int .i64 b0, .int .i64 b1, .int .i64 b2, .int .i64 mb]) w') ∧ HM w0 w b [(w.heap.size + 1, [.int .i64 b0, .int .i64 b1, .int .i64 b2]), (w.heap.size, [.int .i64 a0, .int .i64 a1, .int .i64 a2])] w' ∧ MapV w' b N (FV F2) from fun w' h m => ⟨⟨h.h.tail.fact (.head _) (i := 0) rfl, h.h.tail.fact (.head _) (i := 1) rfl, h.h.tail.fact (.head _) (i := 2) rfl, h.h.fact (.head _) (i := 0) rfl, h.h.fact (.head _) (i := 1) rfl, h.h.fact (.head _) (i := 2) rfl, look69 m HKA.out HMA.out, look69 m HKB.out HMB.out⟩, h, m⟩)
  have fa := fieldMany a0 a1 a2 ma
  have fb := fieldMany b0 b1 b2 mb
  have X5 := X4.drew
  have N5 : MapV w8.drew b N (FV F2) := N4
  refine wp_region_held_drew (S := (fun w' => (w'.cell? ⟨w.heap.size, 0, none⟩ = some (.int .i64 a0) ∧ w'.cell? ⟨w.heap.size, 1, none⟩ = some (.int .i64 a1) ∧ w'.cell? ⟨w.heap.size, 2, none⟩ = some (.int .i64 a2) ∧ w'.cell? ⟨w.heap.size + 1, 0, none⟩ = some (.int .i64 b0) ∧ w'.cell? ⟨w.heap.size + 1, 1, none⟩ = some (.int .i64 b1) ∧ w'.cell? ⟨w.heap.size + 1, 2, none⟩ = some (.int .i64 b2) ∧ (Instr.lookup 69 (.map (some b)) (.agg #[.int .i64 a0, .int .i64 a1, .int .i64 a2]) false).run Tryz.prog w' = .ok (.agg #[.int .i64 a0, .int .i64 a1, .int .i64 a2, .int .i64 ma]) w' ∧ (Instr.lookup 69 (.map (some b)) (.agg #[.int .i64 b0, .int .i64 b1, .int .i64 b2]) false).run Tryz.prog w' = .ok (.agg #[.int .i64 b0, .int .i64 b1, .int .i64 b2, .int .i64 mb]) w') ∧ HM w0 w b [(w.heap.size + 1, [.int .i64 b0, .int .i64 b1, .int .i64 b2]), (w.heap.size, [.int .i64 a0, .int .i64 a1, .int .i64 a2])] w' ∧ MapV w' b N (FV F2))) (by kernel_rfl) (HS5.out _ X5 N5) (fun hHeld => ?_)
  generalize w8.drew = w9 at *
  clear X4 N4
  refine tbA [0, 1, 2, 3, 4, 5] ?_
  refine tkA (.map (some b)) (oi := ⟨some 21, .move (.tmp 0), 69, _, _, none⟩) ?_
  simp only [Act.put, pA, pB, pC]
  refine tkA (.agg #[.int .i64 a0, .int .i64 a1, .int .i64 a2]) (oi := ⟨some 22, .load 39 (.tmp 4), 39, _, _, none⟩) ?_
  simp only [Act.put, pA, pB, pC]
  refine tkA (.agg #[.int .i64 a0, .int .i64 a1, .int .i64 a2, .int .i64 ma]) (oi := ⟨some 23, .lookup 69 (.tmp 21) (.tmp 22) false, 95, _, _, none⟩) ?_
  simp only [Act.put, pA, pB, pC]
  refine tkA (.int .i64 ma) (oi := ⟨some 24, .field 95 (.tmp 23) 1, 3, _, _, none⟩) ?_
  simp only [Act.put, pA, pB, pC]
  refine tkA (.map (some b)) (oi := ⟨some 25, .move (.tmp 0), 69, _, _, none⟩) ?_
  simp only [Act.put, pA, pB, pC]
  refine tkA (.agg #[.int .i64 b0, .int .i64 b1, .int .i64 b2]) (oi := ⟨some 26, .load 39 (.tmp 5), 39, _, _, none⟩) ?_
  simp only [Act.put, pA, pB, pC]
  refine teA ?_
  refine tlA #[true, true, true, true, true, true, false, false, false] ?_
  refine tbA [6, 7, 8] ?_
  refine tkA (.agg #[.int .i64 b0, .int .i64 b1, .int .i64 b2, .int .i64 mb]) (oi := ⟨some 27, .lookup 69 (.tmp 25) (.tmp 26) false, 95, _, _, none⟩) ?_
  simp only [Act.put, pA, pB, pC]
  refine tkA (.int .i64 mb) (oi := ⟨some 28, .field 95 (.tmp 27) 1, 3, _, _, none⟩) ?_
  simp only [Act.put, pA, pB, pC]
  refine tkA (.bool (decide (ma < mb))) (oi := ⟨some 29, .binOp .lss 3 (.tmp 24) (.tmp 28) 3, 4, _, _, none⟩) ?_
  simp only [Act.put, pA, pB, pC]
  refine teA ?_
  refine tlA #[true, true, true, true, true, true, true, true, true] ?_
  refine wpAnyH_done (by kernel_rfl) ?_ _
  clear hHeld HS5 fa fb
  by_cases hm : ma < mb
  ·rw [show decide (ma < mb) = true from decide_eq_true hm]
   clear hm
   have k0 := X5.h.tail.fact (.head _) (i := 0) rfl
   have l0 := X5.h.fact (.head _) (i := 0) rfl
   have k1 := X5.h.tail.fact (.head _) (i := 1) rfl
   have l1 := X5.h.fact (.head _) (i := 1) rfl
   have k2 := X5.h.tail.fact (.head _) (i := 2) rfl
   have l2 := X5.h.fact (.head _) (i := 2) rfl
   have f0 := X5.h.tail.free (.head _) (i := 0) rfl
   have g0 := X5.h.free (.head _) (i := 0) rfl
   have f1 := X5.h.tail.free (.head _) (i := 1) rfl
   have g1 := X5.h.free (.head _) (i := 1) rfl
   have f2 := X5.h.tail.free (.head _) (i := 2) rfl
   have g2 := X5.h.free (.head _) (i := 2) rfl
   have X6 := ((((((X5.swap.set 0 (by simp) (.int .i64 b0)).set 1 (by simp) (.int .i64 b1)).set 2 (by simp) (.int .i64 b2)).swap.set 0 (by simp) (.int .i64 a0)).set 1 (by simp) (.int .i64 a1)).set 2 (by simp) (.int .i64 a2))
   have NEA : b ≠ w.heap.size := X5.swap.ne
   have NEB : b ≠ w.heap.size + 1 := X5.ne
   have N6 := MapV.setCell (MapV.setCell (MapV.setCell (MapV.setCell (MapV.setCell (MapV.setCell N5 (a := ⟨w.heap.size, 0, none⟩) NEA (.int .i64 b0)) (a := ⟨w.heap.size, 1, none⟩) NEA (.int .i64 b1)) (a := ⟨w.heap.size, 2, none⟩) NEA (.int .i64 b2)) (a := ⟨w.heap.size + 1, 0, none⟩) NEB (.int .i64 a0)) (a := ⟨w.heap.size + 1, 1, none⟩) NEB (.int .i64 a1)) (a := ⟨w.heap.size + 1, 2, none⟩) NEB (.int .i64 a2)
   have HX6 := Lib.hid X6
   have HN6 := Lib.hid N6
   clear NEA NEB X6 N6 X5 N5
   go_upto_region 7 with fail
   clear k0 k1 k2 l0 l1 l2
   clear f0 f1 f2 g0 g1 g2
   have X6 := HX6.out
   have N6 := HN6.out
   change HM w0 w b [(w.heap.size + 1, [.int .i64 a0, .int .i64 a1, .int .i64 a2]), (w.heap.size, [.int .i64 b0, .int .i64 b1, .int .i64 b2])] (World.setCell (World.setCell (World.setCell (World.setCell (World.setCell (World.setCell w9 ⟨w.heap.size, 0, none⟩ (.int .i64 b0)) ⟨w.heap.size, 1, none⟩ (.int .i64 b1)) ⟨w.heap.size, 2, none⟩ (.int .i64 b2)) ⟨w.heap.size + 1, 0, none⟩ (.int .i64 a0)) ⟨w.heap.size + 1, 1, none⟩ (.int .i64 a1)) ⟨w.heap.size + 1, 2, none⟩ (.int .i64 a2)) at X6
   generalize (World.setCell (World.setCell (World.setCell (World.setCell (World.setCell (World.setCell w9 ⟨w.heap.size, 0, none⟩ (.int .i64 b0)) ⟨w.heap.size, 1, none⟩ (.int .i64 b1)) ⟨w.heap.size, 2, none⟩ (.int .i64 b2)) ⟨w.heap.size + 1, 0, none⟩ (.int .i64 a0)) ⟨w.heap.size + 1, 1, none⟩ (.int .i64 a1)) ⟨w.heap.size + 1, 2, none⟩ (.int .i64 a2)) = w10 at *
   clear HX6 HN6
   have HS7 := Lib.hid (show ∀ w', HM w0 w b [(w.heap.size + 1, [.int .i64 a0, .int .i64 a1, .int .i64 a2]), (w.heap.size, [.int .i64 b0, .int .i64 b1, .int .i64 b2])] w' → MapV w' b N (FV F2) → (w'.cell? ⟨w.heap.size, 0, none⟩ = some (.int .i64 b0) ∧ w'.cell? ⟨w.heap.size, 1, none⟩ = some (.int .i64 b1) ∧ w'.cell? ⟨w.heap.size, 2, none⟩ = some (.int .i64 b2) ∧ w'.cell? ⟨w.heap.size + 1, 0, none⟩ = some (.int .i64 a0) ∧ w'.cell? ⟨w.heap.size + 1, 1, none⟩ = some (.int .i64 a1) ∧ w'.cell? ⟨w.heap.size + 1, 2, none⟩ = some (.int .i64 a2) ∧ (Instr.lookup 69 (.map (some b)) (.agg #[.int .i64 b0, .int .i64 b1, .int .i64 b2]) false).run Tryz.prog w' = .ok (.agg #[.int .i64 b0, .int .i64 b1, .int .i64 b2, .int .i64 mb]) w' ∧ (Instr.lookup 69 (.map (some b)) (.agg #[.int .i64 a0, .int .i64 a1, .int .i64 a2]) false).run Tryz.prog w' = .ok (.agg #[.int .i64 a0, .int .i64 a1, .int .i64 a2, .int .i64 ma]) w') ∧ HM w0 w b [(w.heap.size + 1, [.int .i64 a0, .int .i64 a1, .int .i64 a2]), (w.heap.size, [.int .i64 b0, .int .i64 b1, .int .i64 b2])] w' ∧ MapV w' b N (FV F2) from fun w' h m => ⟨⟨h.h.tail.fact (.head _) (i := 0) rfl, h.h.tail.fact (.head _) (i := 1) rfl, h.h.tail.fact (.head _) (i := 2) rfl, h.h.fact (.head _) (i := 0) rfl, h.h.fact (.head _) (i := 1) rfl, h.h.fact (.head _) (i := 2) rfl, look69 m HKB.out HMB.out, look69 m HKA.out HMA.out⟩, h, m⟩)
   have fa := fieldMany b0 b1 b2 mb
   have fb := fieldMany a0 a1 a2 ma
   refine plain_Z 13 (fun w' => (w'.cell? ⟨w.heap.size, 0, none⟩ = some (.int .i64 b0) ∧ w'.cell? ⟨w.heap.size, 1, none⟩ = some (.int .i64 b1) ∧ w'.cell? ⟨w.heap.size, 2, none⟩ = some (.int .i64 b2) ∧ w'.cell? ⟨w.heap.size + 1, 0, none⟩ = some (.int .i64 a0) ∧ w'.cell? ⟨w.heap.size + 1, 1, none⟩ = some (.int .i64 a1) ∧ w'.cell? ⟨w.heap.size + 1, 2, none⟩ = some (.int .i64 a2) ∧ (Instr.lookup 69 (.map (some b)) (.agg #[.int .i64 b0, .int .i64 b1, .int .i64 b2]) false).run Tryz.prog w' = .ok (.agg #[.int .i64 b0, .int .i64 b1, .int .i64 b2, .int .i64 mb]) w' ∧ (Instr.lookup 69 (.map (some b)) (.agg #[.int .i64 a0, .int .i64 a1, .int .i64 a2]) false).run Tryz.prog w' = .ok (.agg #[.int .i64 a0, .int .i64 a1, .int .i64 a2, .int .i64 ma]) w') ∧ HM w0 w b [(w.heap.size + 1, [.int .i64 a0, .int .i64 a1, .int .i64 a2]), (w.heap.size, [.int .i64 b0, .int .i64 b1, .int .i64 b2])] w' ∧ MapV w' b N (FV F2)) (by kernel_rfl) ?_
   have X7 := X6.drew
   have N7 : MapV w10.drew b N (FV F2) := N6
   have hHeld := HS7.out _ X7 N7
   generalize w10.drew = w11 at *
   clear X6 N6
   refine wpAnyZ_take (i := 0) (oi := ⟨some 32, .move (.tmp 0), 69, _, _, none⟩) (oz := ⟨none, .mapUpdate 69 (.tmp 32) (.tmp 33) (.tmp 44), 0, _, _, none⟩) (v := .map (some b)) rfl rfl (by kernel_rfl) (fun _ _ _ h => h) (by rfl) (by assumption) (fun wS hSw => ?_) ?_
   ·(try dsimp only at hSw); go_simp
   simp only [Act.put, pA, pB, pC]
   refine wpAnyZ_take (i := 1) (oi := ⟨some 33, .load 39 (.tmp 4), 39, _, _, none⟩) (oz := ⟨none, .mapUpdate 69 (.tmp 32) (.tmp 33) (.tmp 44), 0, _, _, none⟩) (v := .agg #[.int .i64 b0, .int .i64 b1, .int .i64 b2]) rfl rfl (by kernel_rfl) (fun _ _ _ h => h) (by rfl) (by assumption) (fun wS hSw => ?_) ?_
   ·(try dsimp only at hSw); go_simp
   simp only [Act.put, pA, pB, pC]
   refine wpAnyZ_take (i := 2) (oi := ⟨some 34, .load 39 (.tmp 4), 39, _, _, none⟩) (oz := ⟨none, .mapUpdate 69 (.tmp 32) (.tmp 33) (.tmp 44), 0, _, _, none⟩) (v := .agg #[.int .i64 b0, .int .i64 b1, .int .i64 b2]) rfl rfl (by kernel_rfl) (fun _ _ _ h => h) (by rfl) (by assumption) (fun wS hSw => ?_) ?_
   ·(try dsimp only at hSw); go_simp
   simp only [Act.put, pA, pB, pC]
   refine wpAnyZ_take (i := 3) (oi := ⟨some 35, .move (.tmp 0), 69, _, _, none⟩) (oz := ⟨none, .mapUpdate 69 (.tmp 32) (.tmp 33) (.tmp 44), 0, _, _, none⟩) (v := .map (some b)) rfl rfl (by kernel_rfl) (fun _ _ _ h => h) (by rfl) (by assumption) (fun wS hSw => ?_) ?_
   ·(try dsimp only at hSw); go_simp
   simp only [Act.put, pA, pB, pC]
   refine wpAnyZ_take (i := 4) (oi := ⟨some 36, .load 39 (.tmp 4), 39, _, _, none⟩) (oz := ⟨none, .mapUpdate 69 (.tmp 32) (.tmp 33) (.tmp 44), 0, _, _, none⟩) (v := .agg #[.int .i64 b0, .int .i64 b1, .int .i64 b2]) rfl rfl (by kernel_rfl) (fun _ _ _ h => h) (by rfl) (by assumption) (fun wS hSw => ?_) ?_
   ·(try dsimp only at hSw); go_simp
   simp only [Act.put, pA, pB, pC]
   refine wpAnyZ_take (i := 5) (oi := ⟨some 37, .lookup 69 (.tmp 35) (.tmp 36) false, 95, _, _, none⟩) (oz := ⟨none, .mapUpdate 69 (.tmp 32) (.tmp 33) (.tmp 44), 0, _, _, none⟩) (v := .agg #[.int .i64 b0, .int .i64 b1, .int .i64 b2, .int .i64 mb]) rfl rfl (by kernel_rfl) (fun _ _ _ h => h) (by rfl) (by assumption) (fun wS hSw => ?_) ?_
   ·(try dsimp only at hSw); go_simp
   simp only [Act.put, pA, pB, pC]
   refine wpAnyZ_take (i := 6) (oi := ⟨some 38, .field 95 (.tmp 37) 1, 3, _, _, none⟩) (oz := ⟨none, .mapUpdate 69 (.tmp 32) (.tmp 33) (.tmp 44), 0, _, _, none⟩) (v := .int .i64 mb) rfl rfl (by kernel_rfl) (fun _ _ _ h => h) (by rfl) (by assumption) (fun wS hSw => ?_) ?_
   ·(try dsimp only at hSw); go_simp
   simp only [Act.put, pA, pB, pC]
   refine wpAnyZ_take (i := 7) (oi := ⟨some 39, .move (.tmp 0), 69, _, _, none⟩) (oz := ⟨none, .mapUpdate 69 (.tmp 32) (.tmp 33) (.tmp 44), 0, _, _, none⟩) (v := .map (some b)) rfl rfl (by kernel_rfl) (fun _ _ _ h => h) (by rfl) (by assumption) (fun wS hSw => ?_) ?_
   ·(try dsimp only at hSw); go_simp
   simp only [Act.put, pA, pB, pC]
   refine wpAnyZ_take (i := 8) (oi := ⟨some 40, .load 39 (.tmp 5), 39, _, _, none⟩) (oz := ⟨none, .mapUpdate 69 (.tmp 32) (.tmp 33) (.tmp 44), 0, _, _, none⟩) (v := .agg #[.int .i64 a0, .int .i64 a1, .int .i64 a2]) rfl rfl (by kernel_rfl) (fun _ _ _ h => h) (by rfl) (by assumption) (fun wS hSw => ?_) ?_
   ·(try dsimp only at hSw); go_simp
   simp only [Act.put, pA, pB, pC]
   refine wpAnyZ_take (i := 9) (oi := ⟨some 41, .lookup 69 (.tmp 39) (.tmp 40) false, 95, _, _, none⟩) (oz := ⟨none, .mapUpdate 69 (.tmp 32) (.tmp 33) (.tmp 44), 0, _, _, none⟩) (v := .agg #[.int .i64 a0, .int .i64 a1, .int .i64 a2, .int .i64 ma]) rfl rfl (by kernel_rfl) (fun _ _ _ h => h) (by rfl) (by assumption) (fun wS hSw => ?_) ?_
   ·(try dsimp only at hSw); go_simp
   simp only [Act.put, pA, pB, pC]
   refine wpAnyZ_take (i := 10) (oi := ⟨some 42, .field 95 (.tmp 41) 1, 3, _, _, none⟩) (oz := ⟨none, .mapUpdate 69 (.tmp 32) (.tmp 33) (.tmp 44), 0, _, _, none⟩) (v := .int .i64 ma) rfl rfl (by kernel_rfl) (fun _ _ _ h => h) (by rfl) (by assumption) (fun wS hSw => ?_) ?_
   ·(try dsimp only at hSw); go_simp
   simp only [Act.put, pA, pB, pC]
   refine wpAnyZ_take (i := 11) (oi := ⟨some 43, .binOp .add 3 (.tmp 38) (.tmp 42) 3, 3, _, _, none⟩) (oz := ⟨none, .mapUpdate 69 (.tmp 32) (.tmp 33) (.tmp 44), 0, _, _, none⟩) (v := .int .i64 (IntKind.i64.wrap (mb + ma))) rfl rfl (by kernel_rfl) (fun _ _ _ h => h) (by rfl) (by assumption) (fun wS hSw => ?_) ?_
   ·(try dsimp only at hSw); go_simp
   simp only [Act.put, pA, pB, pC]
   refine wpAnyZ_take (i := 12) (oi := ⟨some 44, .build 95 #[(0, .tmp 34), (1, .tmp 43)], 95, _, _, none⟩) (oz := ⟨none, .mapUpdate 69 (.tmp 32) (.tmp 33) (.tmp 44), 0, _, _, none⟩) (v := .agg #[.int .i64 b0, .int .i64 b1, .int .i64 b2, .int .i64 (IntKind.i64.wrap (mb + ma))]) rfl rfl (by kernel_rfl) (fun _ _ _ h => h) (by rfl) (by assumption) (fun wS hSw => ?_) ?_
   ·(try dsimp only at hSw); go_simp
   simp only [Act.put, pA, pB, pC]
   refine wpAnyZ_listed #[true, true, true, true, true, true, true, true, true, true, true, true, true, false] (by kernel_rfl) ?_
   clear HS7 fa fb
   refine wpAnyZ_step (o := ⟨none, .mapUpdate 69 (.tmp 32) (.tmp 33) (.tmp 44), 0, _, _, none⟩) (by kernel_rfl) (by decide) rfl (fun K hK => ?_)
   obtain ⟨w12, hu, N8, g8⟩ := upd69 (u0 := b0) (u1 := b1) (u2 := b2) (m := (IntKind.i64.wrap (mb + ma))) N7 (by have := HN.out; have := HNN.out; omega) HKB.out
   have X8 := X7.upd g8
   clear X7 N7 g8
   go_simp
   clear hu
   try clear hHeld
   refine hK.out _ _ ?_
   clear hK K
   try simp only [pA, pB, pC]
   refine tlA #[true, true, true, true, true, true, true, true, true, true, true, true, true, true] ?_
   have hHeld := True.intro
   refine wpAnyH_done (by kernel_rfl) ?_ _
   refine Calm.normal ?_
   clear hHeld
   go_upto_region 8 with fail
   have k0 := X8.h.tail.fact (.head _) (i := 0) rfl
   have l0 := X8.h.fact (.head _) (i := 0) rfl
   have k1 := X8.h.tail.fact (.head _) (i := 1) rfl
   have l1 := X8.h.fact (.head _) (i := 1) rfl
   have k2 := X8.h.tail.fact (.head _) (i := 2) rfl
   have l2 := X8.h.fact (.head _) (i := 2) rfl
   obtain ⟨w13, hu, N9, g9⟩ := upd69 (u0 := b0) (u1 := b1) (u2 := b2) (m := 0) N8 (by have := HN.out; have := HNN.out; omega) HKA.out
   have X9 := X8.upd g9
   clear X8 N8 g9
   have HR := Lib.hid (show JoinR F (x0, x1, x2) (y0, y1, y2) es w0 w b n w13 from ⟨_, _, HF2.out.2.1.join (m := (IntKind.i64.wrap (mb + ma))) (n := 0) HF2.out.2.2.2.2.1 HF2.out.2.2.2.2.2 (.inr ⟨HSA.out, HSB.out⟩) HNE2.out, (FK_set (FK_set HF2.out.2.2.1 HKB.out) HKB.out), fun q hq => F_set (F_set (HF2.out.2.2.2.1 q hq)), F_set (F_set HF2.out.2.2.2.2.1), F_set (F_set HF2.out.2.2.2.2.2), X9.g, X9.h.low, N9.mono (by have := HNN.out; omega)⟩)
   clear N9 X9
   go_wp2_with fail
   go_end0
   exact ⟨rfl, HR.out⟩
  ·rw [show decide (ma < mb) = false from decide_eq_false hm]
   clear hm
   go_upto_region 7 with fail
   have HS7 := Lib.hid (show ∀ w', HM w0 w b [(w.heap.size + 1, [.int .i64 b0, .int .i64 b1, .int .i64 b2]), (w.heap.size, [.int .i64 a0, .int .i64 a1, .int .i64 a2])] w' → MapV w' b N (FV F2) → (w'.cell? ⟨w.heap.size, 0, none⟩ = some (.int .i64 a0) ∧ w'.cell? ⟨w.heap.size, 1, none⟩ = some (.int .i64 a1) ∧ w'.cell? ⟨w.heap.size, 2, none⟩ = some (.int .i64 a2) ∧ w'.cell? ⟨w.heap.size + 1, 0, none⟩ = some (.int .i64 b0) ∧ w'.cell? ⟨w.heap.size + 1, 1, none⟩ = some (.int .i64 b1) ∧ w'.cell? ⟨w.heap.size + 1, 2, none⟩ = some (.int .i64 b2) ∧ (Instr.lookup 69 (.map (some b)) (.agg #[.int .i64 a0, .int .i64 a1, .int .i64 a2]) false).run Tryz.prog w' = .ok (.agg #[.int .i64 a0, .int .i64 a1, .int .i64 a2, .int .i64 ma]) w' ∧ (Instr.lookup 69 (.map (some b)) (.agg #[.int .i64 b0, .int .i64 b1, .int .i64 b2]) false).run Tryz.prog w' = .ok (.agg #[.int .i64 b0, .int .i64 b1, .int .i64 b2, .int .i64 mb]) w') ∧ HM w0 w b [(w.heap.size + 1, [.int .i64 b0, .int .i64 b1, .int .i64 b2]), (w.heap.size, [.int .i64 a0, .int .i64 a1, .int .i64 a2])] w' ∧ MapV w' b N (FV F2) from fun w' h m => ⟨⟨h.h.tail.fact (.head _) (i := 0) rfl, h.h.tail.fact (.head _) (i := 1) rfl, h.h.tail.fact (.head _) (i := 2) rfl, h.h.fact (.head _) (i := 0) rfl, h.h.fact (.head _) (i := 1) rfl, h.h.fact (.head _) (i := 2) rfl, look69 m HKA.out HMA.out, look69 m HKB.out HMB.out⟩, h, m⟩)
   have fa := fieldMany a0 a1 a2 ma
   have fb := fieldMany b0 b1 b2 mb
   refine plain_Z 13 (fun w' => (w'.cell? ⟨w.heap.size, 0, none⟩ = some (.int .i64 a0) ∧ w'.cell? ⟨w.heap.size, 1, none⟩ = some (.int .i64 a1) ∧ w'.cell? ⟨w.heap.size, 2, none⟩ = some (.int .i64 a2) ∧ w'.cell? ⟨w.heap.size + 1, 0, none⟩ = some (.int .i64 b0) ∧ w'.cell? ⟨w.heap.size + 1, 1, none⟩ = some (.int .i64 b1) ∧ w'.cell? ⟨w.heap.size + 1, 2, none⟩ = some (.int .i64 b2) ∧ (Instr.lookup 69 (.map (some b)) (.agg #[.int .i64 a0, .int .i64 a1, .int .i64 a2]) false).run Tryz.prog w' = .ok (.agg #[.int .i64 a0, .int .i64 a1, .int .i64 a2, .int .i64 ma]) w' ∧ (Instr.lookup 69 (.map (some b)) (.agg #[.int .i64 b0, .int .i64 b1, .int .i64 b2]) false).run Tryz.prog w' = .ok (.agg #[.int .i64 b0, .int .i64 b1, .int .i64 b2, .int .i64 mb]) w') ∧ HM w0 w b [(w.heap.size + 1, [.int .i64 b0, .int .i64 b1, .int .i64 b2]), (w.heap.size, [.int .i64 a0, .int .i64 a1, .int .i64 a2])] w' ∧ MapV w' b N (FV F2)) (by kernel_rfl) ?_
   have X7 := X5.drew
   have N7 : MapV w9.drew b N (FV F2) := N5
   have hHeld := HS7.out _ X7 N7
   generalize w9.drew = w11 at *
   clear X5 N5
   refine wpAnyZ_take (i := 0) (oi := ⟨some 32, .move (.tmp 0), 69, _, _, none⟩) (oz := ⟨none, .mapUpdate 69 (.tmp 32) (.tmp 33) (.tmp 44), 0, _, _, none⟩) (v := .map (some b)) rfl rfl (by kernel_rfl) (fun _ _ _ h => h) (by rfl) (by assumption) (fun wS hSw => ?_) ?_
   ·(try dsimp only at hSw); go_simp
   simp only [Act.put, pA, pB, pC]
   refine wpAnyZ_take (i := 1) (oi := ⟨some 33, .load 39 (.tmp 4), 39, _, _, none⟩) (oz := ⟨none, .mapUpdate 69 (.tmp 32) (.tmp 33) (.tmp 44), 0, _, _, none⟩) (v := .agg #[.int .i64 a0, .int .i64 a1, .int .i64 a2]) rfl rfl (by kernel_rfl) (fun _ _ _ h => h) (by rfl) (by assumption) (fun wS hSw => ?_) ?_
   ·(try dsimp only at hSw); go_simp
   simp only [Act.put, pA, pB, pC]
   refine wpAnyZ_take (i := 2) (oi := ⟨some 34, .load 39 (.tmp 4), 39, _, _, none⟩) (oz := ⟨none, .mapUpdate 69 (.tmp 32) (.tmp 33) (.tmp 44), 0, _, _, none⟩) (v := .agg #[.int .i64 a0, .int .i64 a1, .int .i64 a2]) rfl rfl (by kernel_rfl) (fun _ _ _ h => h) (by rfl) (by assumption) (fun wS hSw => ?_) ?_
   ·(try dsimp only at hSw); go_simp
   simp only [Act.put, pA, pB, pC]
   refine wpAnyZ_take (i := 3) (oi := ⟨some 35, .move (.tmp 0), 69, _, _, none⟩) (oz := ⟨none, .mapUpdate 69 (.tmp 32) (.tmp 33) (.tmp 44), 0, _, _, none⟩) (v := .map (some b)) rfl rfl (by kernel_rfl) (fun _ _ _ h => h) (by rfl) (by assumption) (fun wS hSw => ?_) ?_
   ·(try dsimp only at hSw); go_simp
   simp only [Act.put, pA, pB, pC]
   refine wpAnyZ_take (i := 4) (oi := ⟨some 36, .load 39 (.tmp 4), 39, _, _, none⟩) (oz := ⟨none, .mapUpdate 69 (.tmp 32) (.tmp 33) (.tmp 44), 0, _, _, none⟩) (v := .agg #[.int .i64 a0, .int .i64 a1, .int .i64 a2]) rfl rfl (by kernel_rfl) (fun _ _ _ h => h) (by rfl) (by assumption) (fun wS hSw => ?_) ?_
   ·(try dsimp only at hSw); go_simp
   simp only [Act.put, pA, pB, pC]
   refine wpAnyZ_take (i := 5) (oi := ⟨some 37, .lookup 69 (.tmp 35) (.tmp 36) false, 95, _, _, none⟩) (oz := ⟨none, .mapUpdate 69 (.tmp 32) (.tmp 33) (.tmp 44), 0, _, _, none⟩) (v := .agg #[.int .i64 a0, .int .i64 a1, .int .i64 a2, .int .i64 ma]) rfl rfl (by kernel_rfl) (fun _ _ _ h => h) (by rfl) (by assumption) (fun wS hSw => ?_) ?_
   ·(try dsimp only at hSw); go_simp
   simp only [Act.put, pA, pB, pC]
   refine wpAnyZ_take (i := 6) (oi := ⟨some 38, .field 95 (.tmp 37) 1, 3, _, _, none⟩) (oz := ⟨none, .mapUpdate 69 (.tmp 32) (.tmp 33) (.tmp 44), 0, _, _, none⟩) (v := .int .i64 ma) rfl rfl (by kernel_rfl) (fun _ _ _ h => h) (by rfl) (by assumption) (fun wS hSw => ?_) ?_
   ·(try dsimp only at hSw); go_simp
   simp only [Act.put, pA, pB, pC]
   refine wpAnyZ_take (i := 7) (oi := ⟨some 39, .move (.tmp 0), 69, _, _, none⟩) (oz := ⟨none, .mapUpdate 69 (.tmp 32) (.tmp 33) (.tmp 44), 0, _, _, none⟩) (v := .map (some b)) rfl rfl (by kernel_rfl) (fun _ _ _ h => h) (by rfl) (by assumption) (fun wS hSw => ?_) ?_
   ·(try dsimp only at hSw); go_simp
   simp only [Act.put, pA, pB, pC]
   refine wpAnyZ_take (i := 8) (oi := ⟨some 40, .load 39 (.tmp 5), 39, _, _, none⟩) (oz := ⟨none, .mapUpdate 69 (.tmp 32) (.tmp 33) (.tmp 44), 0, _, _, none⟩) (v := .agg #[.int .i64 b0, .int .i64 b1, .int .i64 b2]) rfl rfl (by kernel_rfl) (fun _ _ _ h => h) (by rfl) (by assumption) (fun wS hSw => ?_) ?_
   ·(try dsimp only at hSw); go_simp
   simp only [Act.put, pA, pB, pC]
   refine wpAnyZ_take (i := 9) (oi := ⟨some 41, .lookup 69 (.tmp 39) (.tmp 40) false, 95, _, _, none⟩) (oz := ⟨none, .mapUpdate 69 (.tmp 32) (.tmp 33) (.tmp 44), 0, _, _, none⟩) (v := .agg #[.int .i64 b0, .int .i64 b1, .int .i64 b2, .int .i64 mb]) rfl rfl (by kernel_rfl) (fun _ _ _ h => h) (by rfl) (by assumption) (fun wS hSw => ?_) ?_
   ·(try dsimp only at hSw); go_simp
   simp only [Act.put, pA, pB, pC]
   refine wpAnyZ_take (i := 10) (oi := ⟨some 42, .field 95 (.tmp 41) 1, 3, _, _, none⟩) (oz := ⟨none, .mapUpdate 69 (.tmp 32) (.tmp 33) (.tmp 44), 0, _, _, none⟩) (v := .int .i64 mb) rfl rfl (by kernel_rfl) (fun _ _ _ h => h) (by rfl) (by assumption) (fun wS hSw => ?_) ?_
   ·(try dsimp only at hSw); go_simp
   simp only [Act.put, pA, pB, pC]
   refine wpAnyZ_take (i := 11) (oi := ⟨some 43, .binOp .add 3 (.tmp 38) (.tmp 42) 3, 3, _, _, none⟩) (oz := ⟨none, .mapUpdate 69 (.tmp 32) (.tmp 33) (.tmp 44), 0, _, _, none⟩) (v := .int .i64 (IntKind.i64.wrap (ma + mb))) rfl rfl (by kernel_rfl) (fun _ _ _ h => h) (by rfl) (by assumption) (fun wS hSw => ?_) ?_
   ·(try dsimp only at hSw); go_simp
   simp only [Act.put, pA, pB, pC]
   refine wpAnyZ_take (i := 12) (oi := ⟨some 44, .build 95 #[(0, .tmp 34), (1, .tmp 43)], 95, _, _, none⟩) (oz := ⟨none, .mapUpdate 69 (.tmp 32) (.tmp 33) (.tmp 44), 0, _, _, none⟩) (v := .agg #[.int .i64 a0, .int .i64 a1, .int .i64 a2, .int .i64 (IntKind.i64.wrap (ma + mb))]) rfl rfl (by kernel_rfl) (fun _ _ _ h => h) (by rfl) (by assumption) (fun wS hSw => ?_) ?_
   ·(try dsimp only at hSw); go_simp
   simp only [Act.put, pA, pB, pC]
   refine wpAnyZ_listed #[true, true, true, true, true, true, true, true, true, true, true, true, true, false] (by kernel_rfl) ?_
   clear HS7 fa fb
   refine wpAnyZ_step (o := ⟨none, .mapUpdate 69 (.tmp 32) (.tmp 33) (.tmp 44), 0, _, _, none⟩) (by kernel_rfl) (by decide) rfl (fun K hK => ?_)
   obtain ⟨w12, hu, N8, g8⟩ := upd69 (u0 := a0) (u1 := a1) (u2 := a2) (m := (IntKind.i64.wrap (ma + mb))) N7 (by have := HN.out; have := HNN.out; omega) HKA.out
   have X8 := X7.upd g8
   clear X7 N7 g8
   go_simp
   clear hu
   try clear hHeld
   refine hK.out _ _ ?_
   clear hK K
   try simp only [pA, pB, pC]
   refine tlA #[true, true, true, true, true, true, true, true, true, true, true, true, true, true] ?_
   have hHeld := True.intro
   refine wpAnyH_done (by kernel_rfl) ?_ _
   refine Calm.normal ?_
   clear hHeld
   go_upto_region 8 with fail
   have k0 := X8.h.tail.fact (.head _) (i := 0) rfl
   have l0 := X8.h.fact (.head _) (i := 0) rfl
   have k1 := X8.h.tail.fact (.head _) (i := 1) rfl
   have l1 := X8.h.fact (.head _) (i := 1) rfl
   have k2 := X8.h.tail.fact (.head _) (i := 2) rfl
   have l2 := X8.h.fact (.head _) (i := 2) rfl
   obtain ⟨w13, hu, N9, g9⟩ := upd69 (u0 := a0) (u1 := a1) (u2 := a2) (m := 0) N8 (by have := HN.out; have := HNN.out; omega) HKB.out
   have X9 := X8.upd g9
   clear X8 N8 g9
   have HR := Lib.hid (show JoinR F (x0, x1, x2) (y0, y1, y2) es w0 w b n w13 from ⟨_, _, HF2.out.2.1.join (m := (IntKind.i64.wrap (ma + mb))) (n := 0) HF2.out.2.2.2.2.1 HF2.out.2.2.2.2.2 (.inl ⟨HSA.out, HSB.out⟩) HNE.out, (FK_set (FK_set HF2.out.2.2.1 HKA.out) HKA.out), fun q hq => F_set (F_set (HF2.out.2.2.2.1 q hq)), F_set (F_set HF2.out.2.2.2.2.1), F_set (F_set HF2.out.2.2.2.2.2), X9.g, X9.h.low, N9.mono (by have := HNN.out; omega)⟩)
   clear N9 X9
   go_wp2_with fail
   go_end0
   exact ⟨rfl, HR.out⟩
 ·have HR := Lib.hid (show JoinR F (x0, x1, x2) (y0, y1, y2) es w0 w b n w8 from ⟨F2, R2, HF2.out.2.1.keep HF2.out.2.2.2.2.1 HF2.out.2.2.2.2.2 (by rw [HSA.out, HSB.out]; unfold keq at hq; exact of_decide_eq_true hq), HF2.out.2.2.1, HF2.out.2.2.2.1, HF2.out.2.2.2.2.1, HF2.out.2.2.2.2.2, X4.g, X4.h.low, N4.mono (by have := HNN.out; omega)⟩)
  clear N4 X4
  go_wp2_with fail
  exact bodyPost_ret (results_none rfl _ _ _) rfl ⟨rfl, HR.out⟩

end Go.Proofs.YtoaldbjcpfkcjaaGreat
