/- digest.Root. -/
import Derived.Test.YtmgkbkpfhpkbcaaIter
namespace Go.Proofs.Ytmgkbkpfhpkbcaa
open Go.RowKit Go.Lib

section
variable {F : Fence} {n : Nat} {ops : Array Oper} {rest : List Oper} {op : Oper} {a : Act} {w : World} {Q : Exit → Act → World → Prop} {b o : Nat} {s : List UInt8}
theorem listIn_value {v : Value} {w' : World} (hg : op.guard = none) (hc : ∀ c, op.op ≠ .call c) (hd : ∀ c, op.op ≠ .defer c) (hrun : (execOp a.eval op).run Try.prog w = .ok (.value v) w') (h : wpListIn F n Try.prog ops Q rest (a.put op.dst v) w') : wpListIn F n Try.prog ops Q (op :: rest) a w := by
  refine wpListIn_plain hg fun K hK => ?_
  unfold Oper.wpIn
  refine ⟨?_, ?_⟩
  · intro f hf
    unfold Oper.about at hf
    cases ho : op.op <;> rw [ho] at hf <;> first | exact absurd ho (hc _) | cases hf
  · rw [Oper.semAt_plain F _ _ hd, hrun]
    exact hK _ _ h
theorem listIn_skip {w' : World} (hg : op.guard = none) (hc : ∀ c, op.op ≠ .call c) (hd : ∀ c, op.op ≠ .defer c) (hrun : (execOp a.eval op).run Try.prog w = .ok .skip w') (h : wpListIn F n Try.prog ops Q rest (a.put op.dst undef) w') : wpListIn F n Try.prog ops Q (op :: rest) a w := by
  refine wpListIn_plain hg fun K hK => ?_
  unfold Oper.wpIn
  refine ⟨?_, ?_⟩
  · intro f hf
    unfold Oper.about at hf
    cases ho : op.op <;> rw [ho] at hf <;> first | exact absurd ho (hc _) | cases hf
  · rw [Oper.semAt_plain F _ _ hd, hrun]
    exact hK _ _ h
/-- A digest is read, in a walk inside a fence. -/
theorem load8In (hgd : op.guard = none) (x : Operand) (ho : op.op = .load 52 x) (hx : a.eval x = .pointer (some ⟨b, o, none⟩)) (hs : Hid (s.length = 8)) (hc : w.rangeAt b o (bc s))
    (h : wpListIn F n Try.prog ops Q rest (a.put op.dst (agg8 s)) w) : wpListIn F n Try.prog ops Q (op :: rest) a w :=
  listIn_value hgd (by rw [ho]; intro c hc; cases hc) (by rw [ho]; intro c hc; cases hc) (exec8 x ho hx hs hc) h
/-- A digest is written, in a walk inside a fence. -/
theorem store8In (hgd : op.guard = none) (x y : Operand) (ho : op.op = .store 52 x y) (hx : a.eval x = .pointer (some ⟨b, o, none⟩)) (hy : a.eval y = agg8 s) (hs : Hid (s.length = 8)) (ht : w.there b o 8)
    (h : wpListIn F n Try.prog ops Q rest (a.put op.dst undef) (w.setCells b o (bc s))) : wpListIn F n Try.prog ops Q (op :: rest) a w := by
  refine listIn_skip hgd (by rw [ho]; intro c hc; cases hc) (by rw [ho]; intro c hc; cases hc) ?_ h
  unfold execOp
  have hy' : a.eval y = .agg (bc s).toArray := hy
  simp only [ho, hx, hy', Instr.storeAt, Instr.sureAddr, Sem.run_bind, Sem.run_pure, Result.andThen_ok, run_storeVar_mid w b o 52 (bc s).toArray (there8 hs ht) (info52a hs.out) (all_oneCell_toArray (bc_one s))]
end

attribute [local go_sem] str
attribute [local go_sem] Oper.semAt_some

/-- What the root's variable holds, k levels having come. -/
def rt (L : List (List UInt8)) (k : Nat) : List UInt8 := if k = 0 then [0, 0, 0, 0, 0, 0, 0, 0] else (lev L (k - 1))[0]?.getD []
theorem rt_length {L : List (List UInt8)} (h32 : L.length ≤ 32) {k : Nat} (hk : k ≤ lg L.length + 1) : (rt L k).length = 8 := by
  unfold rt
  by_cases h : k = 0
  · rw [if_pos h]; rfl
  · rw [if_neg h]
    exact lev_at (lev_pos h32 (by omega))

/-- Between two rounds: the root's variable. -/
structure RI (w : World) (b : Nat) (L : List (List UInt8)) (k : Nat) (W : World) : Prop where
  r : W.rangeAt b 0 (bc (rt L k))
  t : W.there b 0 8
  g : Grows w W
  hb : w.heap.size ≤ b
  lt : b < W.heap.size
theorem RI.later {w : World} {b : Nat} {L : List (List UInt8)} (k : Nat) (A B : World) (h : RI w b L k A) (g : Grows A B) : RI w b L k B :=
  ⟨range_later h.r g h.lt, there_later h.t g h.lt, h.g.then g, h.hb, Nat.lt_of_lt_of_le h.lt g.size⟩
theorem there_putObj {W : World} {b o m i : Nat} {ob ob' : Obj} (h : W.there b o m) (ho : W.heap[i]? = some ob) (hc : ob.isCells = false) : (W.putObj i ob').there b o m := fun j hj => by
  obtain ⟨h1, h2⟩ := h j hj
  obtain ⟨u, hu⟩ := Option.isSome_iff_exists.1 h1
  refine ⟨?_, ?_⟩
  · rw [cell_kept hu (grownBy_putObj' W i ob') (fun r e => by cases e; exact ⟨ob, ho, hc⟩)]; rfl
  · rw [frozen_kept hu (grownBy_putObj' W i ob') (fun r e => by cases e; exact ⟨ob, ho, hc⟩)]; exact h2
theorem range_putObj {W : World} {b o i : Nat} {cs : List Value} {ob ob' : Obj} (h : W.rangeAt b o cs) (ho : W.heap[i]? = some ob) (hc : ob.isCells = false) : (W.putObj i ob').rangeAt b o cs := fun j v hv =>
  cell_kept (h j v hv) (grownBy_putObj' W i ob') (fun r e => by cases e; exact ⟨ob, ho, hc⟩)
theorem grows_putObj {w W : World} {i : Nat} (ob' : Obj) (h : Grows w W) (hi : w.heap.size ≤ i) : Grows w (W.putObj i ob') :=
  h.grown (grownBy_putObj' W i ob') h.size (fun r e => by cases e; exact hi)
theorem RI.putObj {w : World} {b B : Nat} {L : List (List UInt8)} (hB : w.heap.size ≤ B) (k : Nat) (W : World) (i : Nat) (ob ob' : Obj) (h : RI w b L k W) (hi : B ≤ i) (ho : W.heap[i]? = some ob) (hc : ob.isCells = false) : RI w b L k (W.putObj i ob') :=
  ⟨range_putObj h.r ho hc, there_putObj h.t ho hc, grows_putObj ob' h.g (by omega), h.hb, by rw [World.putObj_size]; exact h.lt⟩

theorem heap_set (W : World) (b o : Nat) (cs : List Value) (i : Nat) (h : i ≠ b) : (W.setCells b o cs).heap[i]? = W.heap[i]? := by
  induction cs generalizing o W with
  | nil => rfl
  | cons v r ih =>
    rw [World.setCells, ih]
    exact Below.heap_setCell W ⟨b, o, none⟩ v i h
theorem keeps_set {B b o : Nat} (W : World) (cs : List Value) (h : b < B) : KeepsFrom B W (W.setCells b o cs) :=
  ⟨by rw [set_size]; exact Nat.le_refl _, fun k ob hk ho _ => (heap_set W b o cs k (by omega)).trans ho⟩
theorem Lev.set {l : List (List UInt8)} {B g k b o : Nat} {W : World} (h : Lev l B g k W) (hb : b ≠ g) (cs : List Value) : Lev l B g k (W.setCells b o cs) :=
  ⟨fun j d hd => World.rangeAt_setCells_apart (h.1 j d hd) _ _ _ (.inl (Ne.symm hb)), by rw [set_size]; exact h.2.1, h.2.2.1, h.2.2.2.set _ _ _⟩

set_option maxRecDepth 100000 in
set_option maxHeartbeats 1000000 in
theorem root_any (v : Value) (L : List (List UInt8)) (w : World) (hv : Row w v (strs L)) (hl : ∀ s ∈ L, s.length ≤ 1000) (h32 : L.length ≤ 32) :
    Calls Try.prog 21 #[v] w fun e w' => e = .returned (str (rootL L)) ∧ Grows w w' := by
  have hform : ∃ a cap, v = .slice a L.length cap := by
    obtain ⟨a, cap, h, _⟩ := hv
    exact ⟨a, cap, by rw [h, strs_length]⟩
  obtain ⟨a, cap, rfl⟩ := hform
  refine (callsIn_wide (n := 5)).1 ?_
  refine callsIn_of_wp_marks Try.func21 rfl trivial ?_ rfl
  simp only [Try.ntmps21, List.size_toArray, List.length_cons, List.length_nil, Nat.reduceAdd, Nat.reduceSub, Array.replicate_succ, Array.replicate_zero, List.push_toArray, List.append_toArray, List.nil_append, List.cons_append]
  gi_wp2_with fail
  refine ⟨trivial, (callsIn_wide.2 (levels_any a L.length cap _)).mono ?_⟩
  rintro e w1 ⟨rfl, hw1⟩
  gi_wp2_with fail
  have hs1 : w1.heap.size = w.heap.size + 1 + 1 := by rw [← hw1]; simp
  have g1 : Grows w w1 := by rw [← hw1]; exact ((Below.refl _ w).alloc (Nat.le_refl _) _).alloc (by simp) _
  have hB : w1.cell? ⟨w.heap.size + 1, 0, none⟩ = some (.slice a L.length cap) := by
    have := World.cell?_alloc_new (w.alloc zero8) #[.slice a L.length cap] 28 0
    rw [World.size_alloc] at this
    rw [← hw1]; exact this
  have R0 : RI w w.heap.size L 0 w1 := by
    rw [← hw1]
    refine ⟨?_, World.there_alloc (there_zero w) _, ((Below.refl _ w).alloc (Nat.le_refl _) _).alloc (by simp) _, Nat.le_refl _, by simp; omega⟩
    refine World.rangeAt_alloc (fun j v hv => ?_) _
    rw [World.cell?_alloc_new, Nat.zero_add]
    have e : bc (rt L 0) = [.int .u8 0, .int .u8 0, .int .u8 0, .int .u8 0, .int .u8 0, .int .u8 0, .int .u8 0, .int .u8 0] := by
      unfold rt; rw [if_pos rfl]; rfl
    rw [e] at hv
    simpa using hv
  clear hw1
  refine range_lv (K := lg L.length) (enc := levV L) (Lv := Lev L w1.heap.size) (w0 := w1) rfl (enters_of Try.func43 (by kernel_rfl) rfl) (iter_seq (5 - 1) L _ (w.heap.size + 1) w1 (hv.later g1) hB hl h32) (Below.refl _ _)
    (RI w w.heap.size L) (fun _ _ _ => False) RI.later (RI.putObj g1.size) (fun _ _ _ _ _ _ h => h.elim) Lev.putObj R0
    (fun g k => { tmps := #[.slice a L.length cap, undef, .string ⟨#[]⟩, .pointer (some ⟨w.heap.size, 0, none⟩), levV L g k, .slice a L.length cap, .func (.func 43) #[] #[.pointer (some ⟨w.heap.size + 1, 0, none⟩)], levV L g k, undef, undef, undef, undef, undef], defers := [] }) ?assign ?body ?done ?stop
  case assign =>
    intro l g k A T hT
    gi_wp2_with fail
    exact hT
  case stop =>
    intro D c k A _ _ h
    exact h.elim
  case body =>
    intro l g k A hI hL hk
    have hp := lev_pos h32 hk
    have h8 := Lib.hid (all8 L k _ (List.getElem_mem hp))
    have r0 := hL.1 0 _ (List.getElem?_eq_getElem hp)
    have hne : w.heap.size ≠ g := by have := hL.2.2.1; omega
    have hrt := Lib.hid (show rt L (k + 1) = (lev L k)[0] by
      unfold rt
      rw [if_neg (by omega), Nat.add_sub_cancel, List.getElem?_eq_getElem hp]; rfl)
    have t0 := hI.t
    have h1 : (0 : Int) < ((lev L k).length : Int) := by omega
    unfold levV
    generalize (lev L k)[0] = D at *
    gi_wp2_with (first | (refine load8In rfl _ rfl rfl h8 r0 ?_) | (refine store8In rfl _ _ rfl rfl rfl h8 t0 ?_))
    exact ⟨keeps_set A _ (by omega), ⟨by rw [hrt.out]; exact range_set h8 t0, World.there_setCells t0 _ _ _, grows_set hI.g (Nat.le_refl _), hI.hb, by rw [set_size]; exact hI.lt⟩, hL.set hne _⟩
  case done =>
    intro D A hD hI hK
    have hr := hI.r
    have hgA := hI.g
    have h8 := Lib.hid (rt_length h32 (Nat.le_refl (lg L.length + 1)))
    have hE := Lib.hid (show rt L (lg L.length + 1) = rootL L by unfold rt rootL; rw [if_neg (by omega), Nat.add_sub_cancel])
    rw [hE.out] at hr h8
    have hDw : w.heap.size ≤ D := Nat.le_trans g1.size hD
    clear hE hI
    generalize hRR : rootL L = R at *
    have HRR := Lib.hid hRR
    clear hRR
    gi_wp2_with (first | (refine load8In rfl _ rfl rfl h8 hr ?_))
    refine ⟨trivial, (callsIn_wide.2 (text_any R _ h8.out)).mono ?_⟩
    rintro e w5 ⟨rfl, g5⟩
    have hK5 := heap_grows g5 hK
    gi_wp2_with fail
    refine ⟨by simp, .inl ⟨_, _, rfl, run_takeDeferred hK5, ?_⟩⟩
    exact ⟨_, results_tmp rfl _ _ _, by rw [HRR.out]; rfl, grows_putObj _ (hgA.then g5) hDw⟩

end Go.Proofs.Ytmgkbkpfhpkbcaa
