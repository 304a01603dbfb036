/- The reference: whether a common end is on both segments. The reference: Cross. -/
import Derived.Test.YtkejilomempogaaCr
namespace Go.Proofs.Ytkejilomempogaa
open Go.RowKit Go.Lib

theorem RowP.cells0 {w : World} {b o n c : Nat} {ps : List (Int × Int)} (h : RowP w (.slice (some ⟨b, o, none⟩) n c) ps) {x y : Int} (hi : ps[0]? = some (x, y)) :
    w.cell? ⟨b, o, none⟩ = some (.int .i64 x) ∧ w.cell? ⟨b, o + 1, none⟩ = some (.int .i64 y) := by
  have := h.cells hi
  rwa [Nat.zero_mul, Nat.add_zero] at this
/-- How far the loop over the ends has come. -/
def EndI (f : Nat → Bool) (z : Value) : Prop := z = .int .i64 0 ∨ (z = .int .i64 1 ∧ f 0 = false) ∨ (z = .int .i64 2 ∧ f 0 = false ∧ f 1 = false)
theorem EndI.zero (f : Nat → Bool) : EndI f (.int .i64 0) := .inl rfl
theorem EndI.one {f : Nat → Bool} (h : f 0 = false) : EndI f (.int .i64 1) := .inr (.inl ⟨rfl, h⟩)
theorem EndI.two {f : Nat → Bool} (h : f 0 = false) (k : f 1 = false) : EndI f (.int .i64 2) := .inr (.inr ⟨rfl, h, k⟩)
/-- Whether a point is on two segments, and an end of a list. -/
def endQ (a0 a1 b0 b1 c0 c1 d0 d1 : Int) (q0 q1 : Int × Int) (p : Int × Int) : Bool := bothP a0 a1 b0 b1 c0 c1 d0 d1 p && (eqP p q0 || eqP p q1)
def endE (l : List (Int × Int)) (n : Nat) : Int × Int := if n = 0 then pt l 0 else pt l (l.length - 1)
def endR (l m : List (Int × Int)) (i k : Nat) : Bool := anyTo (fun n => endQ (pt l i).1 (pt l i).2 (pt l (i + 1)).1 (pt l (i + 1)).2 (pt m k).1 (pt m k).2 (pt m (k + 1)).1 (pt m (k + 1)).2 (pt m 0) (pt m (m.length - 1)) (endE l n)) 2

set_option linter.unusedSimpArgs false in
set_option maxRecDepth 100000 in
set_option maxHeartbeats 16000000 in
theorem rend_any (u v : Value) (l m : List (Int × Int)) (i k : Nat) (w : World) (hu : RowP w u l) (hv : RowP w v m) (hi : i + 1 < l.length) (hk : k + 1 < m.length) :
    Calls Try.prog 55 #[u, v, .int .i64 i, .int .i64 k] w fun e w' => e = .returned (.bool (endR l m i k)) ∧ Below w.heap.size w w' := by
  obtain ⟨f, hf⟩ : ∃ f : Nat → Bool, (fun n => endQ (pt l i).1 (pt l i).2 (pt l (i + 1)).1 (pt l (i + 1)).2 (pt m k).1 (pt m k).2 (pt m (k + 1)).1 (pt m (k + 1)).2 (pt m 0) (pt m (m.length - 1)) (endE l n)) = f := ⟨_, rfl⟩
  obtain ⟨r, hr⟩ : ∃ r, anyTo f 2 = r := ⟨_, rfl⟩
  have hR : endR l m i k = r := by unfold endR; rw [hf, hr]
  rw [hR]
  have hu0 := hu
  have hv0 := hv
  obtain ⟨a, cap, rfl, hc1, hc2, -⟩ := hu0
  obtain ⟨a2, cap2, rfl, hc3, hc4, -⟩ := hv0
  obtain ⟨b, o, rfl, -⟩ := hu.spot (by omega)
  obtain ⟨b2, o2, rfl, -⟩ := hv.spot (by omega)
  have p0 : l[i]? = some ((pt l i).1, (pt l i).2) := at_pt (by omega)
  have p1 : l[i + 1]? = some ((pt l (i + 1)).1, (pt l (i + 1)).2) := at_pt (by omega)
  have p2 : m[k]? = some ((pt m k).1, (pt m k).2) := at_pt (by omega)
  have p3 : m[k + 1]? = some ((pt m (k + 1)).1, (pt m (k + 1)).2) := at_pt (by omega)
  have p4 : l[0]? = some ((pt l 0).1, (pt l 0).2) := at_pt (by omega)
  have p5 : l[l.length - 1]? = some ((pt l (l.length - 1)).1, (pt l (l.length - 1)).2) := at_pt (by omega)
  have p6 : m[0]? = some ((pt m 0).1, (pt m 0).2) := at_pt (by omega)
  have p7 : m[m.length - 1]? = some ((pt m (m.length - 1)).1, (pt m (m.length - 1)).2) := at_pt (by omega)
  have hf0 : f 0 = endQ (pt l i).1 (pt l i).2 (pt l (i + 1)).1 (pt l (i + 1)).2 (pt m k).1 (pt m k).2 (pt m (k + 1)).1 (pt m (k + 1)).2 ((pt m 0).1, (pt m 0).2) ((pt m (m.length - 1)).1, (pt m (m.length - 1)).2) ((pt l 0).1, (pt l 0).2) := by rw [← hf]; rfl
  have hf1 : f 1 = endQ (pt l i).1 (pt l i).2 (pt l (i + 1)).1 (pt l (i + 1)).2 (pt m k).1 (pt m k).2 (pt m (k + 1)).1 (pt m (k + 1)).2 ((pt m 0).1, (pt m 0).2) ((pt m (m.length - 1)).1, (pt m (m.length - 1)).2) ((pt l (l.length - 1)).1, (pt l (l.length - 1)).2) := by rw [← hf]; rfl
  clear hf hR
  obtain ⟨s, hs⟩ : ∃ s, l.length = s + 1 := ⟨l.length - 1, by omega⟩
  obtain ⟨t, ht⟩ : ∃ t, m.length = t + 1 := ⟨m.length - 1, by omega⟩
  rw [hs, Nat.add_sub_cancel] at p5 hf1
  rw [ht, Nat.add_sub_cancel] at p7 hf0 hf1
  rw [hs] at hu hc1 hi ⊢
  rw [ht] at hv hc3 hk ⊢
  generalize (pt l i).1 = x0 at *
  generalize (pt l i).2 = x1 at *
  generalize (pt l (i + 1)).1 = x2 at *
  generalize (pt l (i + 1)).2 = x3 at *
  generalize (pt m k).1 = y0 at *
  generalize (pt m k).2 = y1 at *
  generalize (pt m (k + 1)).1 = y2 at *
  generalize (pt m (k + 1)).2 = y3 at *
  generalize (pt l 0).1 = e0 at *
  generalize (pt l 0).2 = e1 at *
  generalize (pt l s).1 = e2 at *
  generalize (pt l s).2 = e3 at *
  generalize (pt m 0).1 = m0 at *
  generalize (pt m 0).2 = m1 at *
  generalize (pt m t).1 = m2 at *
  generalize (pt m t).2 = m3 at *
  have HU := Lib.hid hu
  have HV := Lib.hid hv
  have HP0 := Lib.hid p0
  have HP1 := Lib.hid p1
  have HP2 := Lib.hid p2
  have HP3 := Lib.hid p3
  have HP4 := Lib.hid p4
  have HP5 := Lib.hid p5
  have HP6 := Lib.hid p6
  have HP7 := Lib.hid p7
  have HF0 := Lib.hid hf0
  have HF1 := Lib.hid hf1
  have HF := Lib.hid hr
  clear hu hv p0 p1 p2 p3 p4 p5 p6 p7 hf0 hf1 hr hs ht
  have is : IntKind.i64.wrap ((i : Int) + 1) = ((i + 1 : Nat) : Int) := by rw [IntWalk.i64_in _ (by omega)]; rfl
  have ks : IntKind.i64.wrap ((k : Int) + 1) = ((k + 1 : Nat) : Int) := by rw [IntWalk.i64_in _ (by omega)]; rfl
  have ss : IntKind.i64.wrap ((s : Int) + 1 - 1) = (s : Int) := by rw [IntWalk.i64_in _ (by omega)]; omega
  have ts : IntKind.i64.wrap ((t : Int) + 1 - 1) = (t : Int) := by rw [IntWalk.i64_in _ (by omega)]; omega
  have ss3 : IntKind.i64.wrap (s : Int) = (s : Int) := IntWalk.i64_in _ (by omega)
  have ts3 : IntKind.i64.wrap (t : Int) = (t : Int) := IntWalk.i64_in _ (by omega)
  have ss2 : ((s : Int) + 1 - 1) = (s : Int) := by omega
  have ts2 : ((t : Int) + 1 - 1) = (t : Int) := by omega
  have c1 : (i : Int) < s + 1 := by omega
  have c2 : (0 : Int) ≤ i := by omega
  have c3 : (i : Int) + 1 < s + 1 := by omega
  have c4 : (0 : Int) ≤ (i : Int) + 1 := by omega
  have c5 : ((i : Int) + 1).toNat = i + 1 := by omega
  have c6 : (k : Int) < t + 1 := by omega
  have c7 : (0 : Int) ≤ k := by omega
  have c8 : (k : Int) + 1 < t + 1 := by omega
  have c9 : (0 : Int) ≤ (k : Int) + 1 := by omega
  have d1 : ((k : Int) + 1).toNat = k + 1 := by omega
  have d2 : (0 : Int) < (s : Int) + 1 := by omega
  have d3 : (s : Int) < (s : Int) + 1 := by omega
  have d4 : (0 : Int) < (t : Int) + 1 := by omega
  have d5 : (t : Int) < (t : Int) + 1 := by omega
  have d6 : (0 : Int) ≤ s := by omega
  have d7 : (0 : Int) ≤ t := by omega
  go_enter Try.func55, Try.ntmps55
  go_upto_region 1 with fail
  have X0 := (Has.nil (Below.refl w.heap.size w)).drew
  have ms1 := Lib.hid (show ∀ w', Has w [] w' → (w'.cell? ⟨b, o, none⟩ = some (.int .i64 e0) ∧ w'.cell? ⟨b, o + 1, none⟩ = some (.int .i64 e1) ∧ w'.cell? ⟨b, o + s * 2, none⟩ = some (.int .i64 e2) ∧ w'.cell? ⟨b, o + s * 2 + 1, none⟩ = some (.int .i64 e3)) ∧ Has w [] w' from fun w' h => by
    have hRb := HU.out.later h.low
    exact ⟨⟨(RowP.cells0 hRb HP4.out).1, (RowP.cells0 hRb HP4.out).2, (hRb.cells HP5.out).1, (hRb.cells HP5.out).2⟩, h⟩)
  refine wp_region_held_drew (S := (fun w' => (w'.cell? ⟨b, o, none⟩ = some (.int .i64 e0) ∧ w'.cell? ⟨b, o + 1, none⟩ = some (.int .i64 e1) ∧ w'.cell? ⟨b, o + s * 2, none⟩ = some (.int .i64 e2) ∧ w'.cell? ⟨b, o + s * 2 + 1, none⟩ = some (.int .i64 e3)) ∧ Has w [] w')) (by kernel_rfl) (ms1.out _ X0) (fun hHeld => ?_)
  generalize w.drew = wd at *
  refine wpAnyT_begin [0, 1, 2, 3, 4, 5, 6, 7, 8, 9] (by kernel_rfl) (by kernel_rfl) ?_
  refine wpAnyT_take (oi := ⟨some 14, Op.move (Operand.tmp 0), 23, _, _, none⟩) (v := .slice (some ⟨b, o, none⟩) (s + 1) cap) rfl (fun _ _ _ h => h) (by rfl) (by assumption) (fun wS hSw => ?_) ?_
  · (try dsimp only at hSw); go_simp
  simp only [Act.put, List.setIfInBounds_toArray, List.set_cons_zero, List.set_cons_succ]
  refine wpAnyT_take (oi := ⟨some 15, Op.indexAddr 23 (Operand.tmp 14) (Operand.const (Value.int IntKind.i64 0)), 0, _, _, none⟩) (v := .pointer (some ⟨b, o, none⟩)) rfl (fun _ _ _ h => h) (by rfl) (by assumption) (fun wS hSw => ?_) ?_
  · (try dsimp only at hSw); go_simp
  simp only [Act.put, List.setIfInBounds_toArray, List.set_cons_zero, List.set_cons_succ]
  refine wpAnyT_take (oi := ⟨some 16, Op.load 36 (Operand.tmp 15), 36, _, _, none⟩) (v := .agg #[.int .i64 e0, .int .i64 e1]) rfl (fun _ _ _ h => h) (by rfl) (by assumption) (fun wS hSw => ?_) ?_
  · (try dsimp only at hSw); go_simp
  simp only [Act.put, List.setIfInBounds_toArray, List.set_cons_zero, List.set_cons_succ]
  refine wpAnyT_take (oi := ⟨some 17, Op.move (Operand.tmp 0), 23, _, _, none⟩) (v := .slice (some ⟨b, o, none⟩) (s + 1) cap) rfl (fun _ _ _ h => h) (by rfl) (by assumption) (fun wS hSw => ?_) ?_
  · (try dsimp only at hSw); go_simp
  simp only [Act.put, List.setIfInBounds_toArray, List.set_cons_zero, List.set_cons_succ]
  refine wpAnyT_take (oi := ⟨some 18, Op.move (Operand.tmp 0), 23, _, _, none⟩) (v := .slice (some ⟨b, o, none⟩) (s + 1) cap) rfl (fun _ _ _ h => h) (by rfl) (by assumption) (fun wS hSw => ?_) ?_
  · (try dsimp only at hSw); go_simp
  simp only [Act.put, List.setIfInBounds_toArray, List.set_cons_zero, List.set_cons_succ]
  refine wpAnyT_take (oi := ⟨some 19, Op.call { callee := Callee.builtin Builtin.len, args := #[Operand.tmp 18], argTypes := #[23] }, 3, _, _, none⟩) (v := .int .i64 ((s : Int) + 1)) rfl (fun _ _ _ h => h) (by rfl) (by assumption) (fun wS hSw => ?_) ?_
  · (try dsimp only at hSw); go_simp
  simp only [Act.put, List.setIfInBounds_toArray, List.set_cons_zero, List.set_cons_succ]
  refine wpAnyT_take (oi := ⟨some 20, Op.binOp BinOp.sub 3 (Operand.tmp 19) (Operand.const (Value.int IntKind.i64 1)) 3, 3, _, _, none⟩) (v := .int .i64 s) rfl (fun _ _ _ h => h) (by rfl) (by assumption) (fun wS hSw => ?_) ?_
  · (try dsimp only at hSw); go_simp
  simp only [Act.put, List.setIfInBounds_toArray, List.set_cons_zero, List.set_cons_succ]
  refine wpAnyT_take (oi := ⟨some 21, Op.indexAddr 23 (Operand.tmp 17) (Operand.tmp 20), 0, _, _, none⟩) (v := .pointer (some ⟨b, o + s * 2, none⟩)) rfl (fun _ _ _ h => h) (by rfl) (by assumption) (fun wS hSw => ?_) ?_
  · (try dsimp only at hSw); go_simp
  simp only [Act.put, List.setIfInBounds_toArray, List.set_cons_zero, List.set_cons_succ]
  refine wpAnyT_take (oi := ⟨some 22, Op.load 36 (Operand.tmp 21), 36, _, _, none⟩) (v := .agg #[.int .i64 e2, .int .i64 e3]) rfl (fun _ _ _ h => h) (by rfl) (by assumption) (fun wS hSw => ?_) ?_
  · (try dsimp only at hSw); go_simp
  simp only [Act.put, List.setIfInBounds_toArray, List.set_cons_zero, List.set_cons_succ]
  refine wpAnyT_take (oi := ⟨some 23, Op.build 77 #[(0, Operand.tmp 16), (1, Operand.tmp 22)], 77, _, _, none⟩) (v := .agg #[.int .i64 e0, .int .i64 e1, .int .i64 e2, .int .i64 e3]) rfl (fun _ _ _ h => h) (by rfl) (by assumption) (fun wS hSw => ?_) ?_
  · (try dsimp only at hSw); go_simp
  simp only [Act.put, List.setIfInBounds_toArray, List.set_cons_zero, List.set_cons_succ]
  refine wpAnyT_end ?_
  refine wpAnyH_listed #[true, true, true, true, true, true, true, true, true, true, false, false] (by kernel_rfl) ?_
  refine wpAnyH_ready (rs := [10]) (by kernel_rfl) (by simp) ?_
  refine AllReadyH.cons (o := ⟨some 9, Op.alloc 77, 0, _, _, none⟩) rfl (fun K hK => ?_) AllReadyH.nil
  go_simp
  have X1 := X0.push [.int .i64 0, .int .i64 0, .int .i64 0, .int .i64 0] 77
  change Has w _ (wd.alloc (.cells #[.int .i64 0, .int .i64 0, .int .i64 0, .int .i64 0] 77)) at X1
  generalize wd.alloc (.cells #[.int .i64 0, .int .i64 0, .int .i64 0, .int .i64 0] 77) = w1 at *
  generalize wd.heap.size = E at *
  clear hHeld
  refine hK.out _ _ (ms1.out _ X1.tail) (fun hHeld => ?_)
  clear hK K
  try simp only [List.setIfInBounds_toArray, List.set_cons_zero, List.set_cons_succ]
  refine wpAnyH_listed #[true, true, true, true, true, true, true, true, true, true, true, false] (by kernel_rfl) ?_
  refine wpAnyH_ready (rs := [11]) (by kernel_rfl) (by simp) ?_
  refine AllReadyH.cons (o := ⟨none, Op.store 77 (Operand.tmp 9) (Operand.tmp 23), 0, _, _, none⟩) rfl (fun K hK => ?_) AllReadyH.nil
  obtain ⟨k0, k1, k2, k3⟩ := X1.one4
  have f0 := X1.free (.head _) (i := 0) rfl
  have f1 := X1.free (.head _) (i := 1) rfl
  have f2 := X1.free (.head _) (i := 2) rfl
  have f3 := X1.free (.head _) (i := 3) rfl
  go_simp
  have X2 := X1.set4 (.int .i64 e0) (.int .i64 e1) (.int .i64 e2) (.int .i64 e3)
  generalize (((w1.setCell ⟨E, 0, none⟩ (.int .i64 e0)).setCell ⟨E, 1, none⟩ (.int .i64 e1)).setCell ⟨E, 2, none⟩ (.int .i64 e2)).setCell ⟨E, 3, none⟩ (.int .i64 e3) = w2 at *
  clear k0 k1 k2 k3 f0 f1 f2 f3
  clear hHeld
  refine hK.out _ _ (ms1.out _ X2.tail) (fun hHeld => ?_)
  clear hK K
  try simp only [List.setIfInBounds_toArray, List.set_cons_zero, List.set_cons_succ]
  refine wpAnyH_listed #[true, true, true, true, true, true, true, true, true, true, true, true] (by kernel_rfl) ?_
  refine wpAnyH_done (by kernel_rfl) ?_ _
  clear hHeld
  clear ms1 X0 X1
  go_wp2_with fail
  go_loopw [10] (fun z wr => EndI f z ∧ Has w [(E, [.int .i64 e0, .int .i64 e1, .int .i64 e2, .int .i64 e3])] wr) (fun z _ => (2 - RowKit.intOf z).toNat)
  case atStart => exact ⟨EndI.zero f, X2⟩
  case round =>
    clear X2
    obtain ⟨hz, hI⟩ := hrel
    obtain ⟨k0, k1, k2, k3⟩ := hI.one4
    rcases hz with rfl | ⟨rfl, hp⟩ | ⟨rfl, hp, hq⟩
    · have E2 := hI.push [.int .i64 e0, .int .i64 e1] 36
      change Has w _ (wr.alloc (.cells #[.int .i64 e0, .int .i64 e1] 36)) at E2
      go_wp2_with fail
      generalize wr.alloc (.cells #[.int .i64 e0, .int .i64 e1] 36) = w4 at *
      generalize wr.heap.size = G at *
      clear k0 k1 k2 k3 hI
      obtain ⟨ov1, ho1⟩ : ∃ v, onOf x0 x1 x2 x3 e0 e1 = v := ⟨_, rfl⟩
      obtain ⟨ov2, ho2⟩ : ∃ v, onOf y0 y1 y2 y3 e0 e1 = v := ⟨_, rfl⟩
      have hfn : f 0 = ((ov1 && ov2) && (eqP (e0, e1) (m0, m1) || eqP (e0, e1) (m2, m3))) := by rw [HF0.out]; unfold endQ bothP; rw [ho1, ho2]
      have HO1 := Lib.hid ho1
      have HO2 := Lib.hid ho2
      have HFN := Lib.hid hfn
      clear ho1 ho2 hfn
      have X0 := E2.drew
      have ms2 := Lib.hid (show ∀ w', Has w [(G, [.int .i64 e0, .int .i64 e1]), (E, [.int .i64 e0, .int .i64 e1, .int .i64 e2, .int .i64 e3])] w' → (w'.cell? ⟨b, o + i * 2, none⟩ = some (.int .i64 x0) ∧ w'.cell? ⟨b, o + i * 2 + 1, none⟩ = some (.int .i64 x1) ∧ w'.cell? ⟨b, o + (i + 1) * 2, none⟩ = some (.int .i64 x2) ∧ w'.cell? ⟨b, o + (i + 1) * 2 + 1, none⟩ = some (.int .i64 x3) ∧ w'.cell? ⟨G, 0, none⟩ = some (.int .i64 e0) ∧ w'.cell? ⟨G, 1, none⟩ = some (.int .i64 e1) ∧ w'.cell? ⟨E, 0, none⟩ = some (.int .i64 e0) ∧ w'.cell? ⟨E, 1, none⟩ = some (.int .i64 e1) ∧ w'.cell? ⟨E, 2, none⟩ = some (.int .i64 e2) ∧ w'.cell? ⟨E, 3, none⟩ = some (.int .i64 e3)) ∧ Has w [(G, [.int .i64 e0, .int .i64 e1]), (E, [.int .i64 e0, .int .i64 e1, .int .i64 e2, .int .i64 e3])] w' from fun w' h => by
        have hRb := HU.out.later h.low
        exact ⟨⟨(hRb.cells HP0.out).1, (hRb.cells HP0.out).2, (hRb.cells HP1.out).1, (hRb.cells HP1.out).2, h.fact (.head _) (i := 0) rfl, h.fact (.head _) (i := 1) rfl, h.tail.fact (.head _) (i := 0) rfl, h.tail.fact (.head _) (i := 1) rfl, h.tail.fact (.head _) (i := 2) rfl, h.tail.fact (.head _) (i := 3) rfl⟩, h⟩)
      refine wp_region_held_drew (S := (fun w' => (w'.cell? ⟨b, o + i * 2, none⟩ = some (.int .i64 x0) ∧ w'.cell? ⟨b, o + i * 2 + 1, none⟩ = some (.int .i64 x1) ∧ w'.cell? ⟨b, o + (i + 1) * 2, none⟩ = some (.int .i64 x2) ∧ w'.cell? ⟨b, o + (i + 1) * 2 + 1, none⟩ = some (.int .i64 x3) ∧ w'.cell? ⟨G, 0, none⟩ = some (.int .i64 e0) ∧ w'.cell? ⟨G, 1, none⟩ = some (.int .i64 e1) ∧ w'.cell? ⟨E, 0, none⟩ = some (.int .i64 e0) ∧ w'.cell? ⟨E, 1, none⟩ = some (.int .i64 e1) ∧ w'.cell? ⟨E, 2, none⟩ = some (.int .i64 e2) ∧ w'.cell? ⟨E, 3, none⟩ = some (.int .i64 e3)) ∧ Has w [(G, [.int .i64 e0, .int .i64 e1]), (E, [.int .i64 e0, .int .i64 e1, .int .i64 e2, .int .i64 e3])] w')) (by kernel_rfl) (ms2.out _ X0) (fun hHeld => ?_)
      refine wpAnyT_begin [0, 1, 2, 3, 4, 5, 6, 7, 8, 9] (by kernel_rfl) (by kernel_rfl) ?_
      refine wpAnyT_take (oi := ⟨some 31, Op.move (Operand.tmp 0), 23, _, _, none⟩) (v := .slice (some ⟨b, o, none⟩) (s + 1) cap) rfl (fun _ _ _ h => h) (by rfl) (by assumption) (fun wS hSw => ?_) ?_
      · (try dsimp only at hSw); go_simp
      simp only [Act.put, List.setIfInBounds_toArray, List.set_cons_zero, List.set_cons_succ]
      refine wpAnyT_take (oi := ⟨some 32, Op.move (Operand.tmp 2), 3, _, _, none⟩) (v := .int .i64 i) rfl (fun _ _ _ h => h) (by rfl) (by assumption) (fun wS hSw => ?_) ?_
      · (try dsimp only at hSw); go_simp
      simp only [Act.put, List.setIfInBounds_toArray, List.set_cons_zero, List.set_cons_succ]
      refine wpAnyT_take (oi := ⟨some 33, Op.indexAddr 23 (Operand.tmp 31) (Operand.tmp 32), 0, _, _, none⟩) (v := .pointer (some ⟨b, o + i * 2, none⟩)) rfl (fun _ _ _ h => h) (by rfl) (by assumption) (fun wS hSw => ?_) ?_
      · (try dsimp only at hSw); go_simp
      simp only [Act.put, List.setIfInBounds_toArray, List.set_cons_zero, List.set_cons_succ]
      refine wpAnyT_take (oi := ⟨some 34, Op.load 36 (Operand.tmp 33), 36, _, _, none⟩) (v := .agg #[.int .i64 x0, .int .i64 x1]) rfl (fun _ _ _ h => h) (by rfl) (by assumption) (fun wS hSw => ?_) ?_
      · (try dsimp only at hSw); go_simp
      simp only [Act.put, List.setIfInBounds_toArray, List.set_cons_zero, List.set_cons_succ]
      refine wpAnyT_take (oi := ⟨some 35, Op.move (Operand.tmp 0), 23, _, _, none⟩) (v := .slice (some ⟨b, o, none⟩) (s + 1) cap) rfl (fun _ _ _ h => h) (by rfl) (by assumption) (fun wS hSw => ?_) ?_
      · (try dsimp only at hSw); go_simp
      simp only [Act.put, List.setIfInBounds_toArray, List.set_cons_zero, List.set_cons_succ]
      refine wpAnyT_take (oi := ⟨some 36, Op.move (Operand.tmp 2), 3, _, _, none⟩) (v := .int .i64 i) rfl (fun _ _ _ h => h) (by rfl) (by assumption) (fun wS hSw => ?_) ?_
      · (try dsimp only at hSw); go_simp
      simp only [Act.put, List.setIfInBounds_toArray, List.set_cons_zero, List.set_cons_succ]
      refine wpAnyT_take (oi := ⟨some 37, Op.binOp BinOp.add 3 (Operand.tmp 36) (Operand.const (Value.int IntKind.i64 1)) 3, 3, _, _, none⟩) (v := .int .i64 ((i : Int) + 1)) rfl (fun _ _ _ h => h) (by rfl) (by assumption) (fun wS hSw => ?_) ?_
      · (try dsimp only at hSw); go_simp
      simp only [Act.put, List.setIfInBounds_toArray, List.set_cons_zero, List.set_cons_succ]
      refine wpAnyT_take (oi := ⟨some 38, Op.indexAddr 23 (Operand.tmp 35) (Operand.tmp 37), 0, _, _, none⟩) (v := .pointer (some ⟨b, o + (i + 1) * 2, none⟩)) rfl (fun _ _ _ h => h) (by rfl) (by assumption) (fun wS hSw => ?_) ?_
      · (try dsimp only at hSw); go_simp
      simp only [Act.put, List.setIfInBounds_toArray, List.set_cons_zero, List.set_cons_succ]
      refine wpAnyT_take (oi := ⟨some 39, Op.load 36 (Operand.tmp 38), 36, _, _, none⟩) (v := .agg #[.int .i64 x2, .int .i64 x3]) rfl (fun _ _ _ h => h) (by rfl) (by assumption) (fun wS hSw => ?_) ?_
      · (try dsimp only at hSw); go_simp
      simp only [Act.put, List.setIfInBounds_toArray, List.set_cons_zero, List.set_cons_succ]
      refine wpAnyT_take (oi := ⟨some 40, Op.load 36 (Operand.tmp 11), 36, _, _, none⟩) (v := .agg #[.int .i64 e0, .int .i64 e1]) rfl (fun _ _ _ h => h) (by rfl) (by assumption) (fun wS hSw => ?_) ?_
      · (try dsimp only at hSw); go_simp
      simp only [Act.put, List.setIfInBounds_toArray, List.set_cons_zero, List.set_cons_succ]
      refine wpAnyT_end ?_
      refine wpAnyH_listed #[true, true, true, true, true, true, true, true, true, true, false, false] (by kernel_rfl) ?_
      refine wpAnyH_ready (rs := [10]) (by kernel_rfl) (by simp) ?_
      refine AllReadyH.cons (o := ⟨some 41, Op.call { callee := Callee.value (Operand.func 72), args := #[Operand.tmp 34, Operand.tmp 39, Operand.tmp 40], argTypes := #[36, 36, 36] }, 4, _, _, none⟩) rfl (fun K hK => ?_) AllReadyH.nil
      go_simp
      go_at_call 72
      refine (Has.call X0 (ron_is _ _ _ _ _ _ _ HO1.out _)).mono ?_
      rintro e w5 ⟨rfl, X1⟩
      go_wp2_with fail
      clear hHeld
      refine hK.out _ _ (ms2.out _ X1) (fun hHeld => ?_)
      clear hK K
      try simp only [List.setIfInBounds_toArray, List.set_cons_zero, List.set_cons_succ]
      refine wpAnyH_listed #[true, true, true, true, true, true, true, true, true, true, true, false] (by kernel_rfl) ?_
      refine wpAnyT_begin [11] (by kernel_rfl) (by kernel_rfl) ?_
      refine wpAnyT_take (oi := ⟨some 12, Op.assign (Operand.tmp 41), 4, _, _, none⟩) (v := .bool ov1) rfl (fun _ _ _ h => h) (by rfl) (by assumption) (fun wS hSw => ?_) ?_
      · (try dsimp only at hSw); go_simp
      simp only [Act.put, List.setIfInBounds_toArray, List.set_cons_zero, List.set_cons_succ]
      refine wpAnyT_end ?_
      refine wpAnyH_listed #[true, true, true, true, true, true, true, true, true, true, true, true] (by kernel_rfl) ?_
      refine wpAnyH_done (by kernel_rfl) ?_ _
      clear hHeld
      clear ms2 X0 E2
      go_wp2_with fail
      have X3 := X1.drew
      have ms3 := Lib.hid (show ∀ w', Has w [(G, [.int .i64 e0, .int .i64 e1]), (E, [.int .i64 e0, .int .i64 e1, .int .i64 e2, .int .i64 e3])] w' → (w'.cell? ⟨b2, o2 + k * 2, none⟩ = some (.int .i64 y0) ∧ w'.cell? ⟨b2, o2 + k * 2 + 1, none⟩ = some (.int .i64 y1) ∧ w'.cell? ⟨b2, o2 + (k + 1) * 2, none⟩ = some (.int .i64 y2) ∧ w'.cell? ⟨b2, o2 + (k + 1) * 2 + 1, none⟩ = some (.int .i64 y3) ∧ w'.cell? ⟨G, 0, none⟩ = some (.int .i64 e0) ∧ w'.cell? ⟨G, 1, none⟩ = some (.int .i64 e1) ∧ w'.cell? ⟨E, 0, none⟩ = some (.int .i64 e0) ∧ w'.cell? ⟨E, 1, none⟩ = some (.int .i64 e1) ∧ w'.cell? ⟨E, 2, none⟩ = some (.int .i64 e2) ∧ w'.cell? ⟨E, 3, none⟩ = some (.int .i64 e3)) ∧ Has w [(G, [.int .i64 e0, .int .i64 e1]), (E, [.int .i64 e0, .int .i64 e1, .int .i64 e2, .int .i64 e3])] w' from fun w' h => by
        have hRb2 := HV.out.later h.low
        exact ⟨⟨(hRb2.cells HP2.out).1, (hRb2.cells HP2.out).2, (hRb2.cells HP3.out).1, (hRb2.cells HP3.out).2, h.fact (.head _) (i := 0) rfl, h.fact (.head _) (i := 1) rfl, h.tail.fact (.head _) (i := 0) rfl, h.tail.fact (.head _) (i := 1) rfl, h.tail.fact (.head _) (i := 2) rfl, h.tail.fact (.head _) (i := 3) rfl⟩, h⟩)
      refine wp_region_held_drew (S := (fun w' => (w'.cell? ⟨b2, o2 + k * 2, none⟩ = some (.int .i64 y0) ∧ w'.cell? ⟨b2, o2 + k * 2 + 1, none⟩ = some (.int .i64 y1) ∧ w'.cell? ⟨b2, o2 + (k + 1) * 2, none⟩ = some (.int .i64 y2) ∧ w'.cell? ⟨b2, o2 + (k + 1) * 2 + 1, none⟩ = some (.int .i64 y3) ∧ w'.cell? ⟨G, 0, none⟩ = some (.int .i64 e0) ∧ w'.cell? ⟨G, 1, none⟩ = some (.int .i64 e1) ∧ w'.cell? ⟨E, 0, none⟩ = some (.int .i64 e0) ∧ w'.cell? ⟨E, 1, none⟩ = some (.int .i64 e1) ∧ w'.cell? ⟨E, 2, none⟩ = some (.int .i64 e2) ∧ w'.cell? ⟨E, 3, none⟩ = some (.int .i64 e3)) ∧ Has w [(G, [.int .i64 e0, .int .i64 e1]), (E, [.int .i64 e0, .int .i64 e1, .int .i64 e2, .int .i64 e3])] w')) (by kernel_rfl) (ms3.out _ X3) (fun hHeld => ?_)
      refine wpAnyT_begin [0, 1, 2, 3, 4, 5, 6, 7, 8, 9] (by kernel_rfl) (by kernel_rfl) ?_
      refine wpAnyT_take (oi := ⟨some 42, Op.move (Operand.tmp 1), 23, _, _, none⟩) (v := .slice (some ⟨b2, o2, none⟩) (t + 1) cap2) rfl (fun _ _ _ h => h) (by rfl) (by assumption) (fun wS hSw => ?_) ?_
      · (try dsimp only at hSw); go_simp
      simp only [Act.put, List.setIfInBounds_toArray, List.set_cons_zero, List.set_cons_succ]
      refine wpAnyT_take (oi := ⟨some 43, Op.move (Operand.tmp 3), 3, _, _, none⟩) (v := .int .i64 k) rfl (fun _ _ _ h => h) (by rfl) (by assumption) (fun wS hSw => ?_) ?_
      · (try dsimp only at hSw); go_simp
      simp only [Act.put, List.setIfInBounds_toArray, List.set_cons_zero, List.set_cons_succ]
      refine wpAnyT_take (oi := ⟨some 44, Op.indexAddr 23 (Operand.tmp 42) (Operand.tmp 43), 0, _, _, none⟩) (v := .pointer (some ⟨b2, o2 + k * 2, none⟩)) rfl (fun _ _ _ h => h) (by rfl) (by assumption) (fun wS hSw => ?_) ?_
      · (try dsimp only at hSw); go_simp
      simp only [Act.put, List.setIfInBounds_toArray, List.set_cons_zero, List.set_cons_succ]
      refine wpAnyT_take (oi := ⟨some 45, Op.load 36 (Operand.tmp 44), 36, _, _, none⟩) (v := .agg #[.int .i64 y0, .int .i64 y1]) rfl (fun _ _ _ h => h) (by rfl) (by assumption) (fun wS hSw => ?_) ?_
      · (try dsimp only at hSw); go_simp
      simp only [Act.put, List.setIfInBounds_toArray, List.set_cons_zero, List.set_cons_succ]
      refine wpAnyT_take (oi := ⟨some 46, Op.move (Operand.tmp 1), 23, _, _, none⟩) (v := .slice (some ⟨b2, o2, none⟩) (t + 1) cap2) rfl (fun _ _ _ h => h) (by rfl) (by assumption) (fun wS hSw => ?_) ?_
      · (try dsimp only at hSw); go_simp
      simp only [Act.put, List.setIfInBounds_toArray, List.set_cons_zero, List.set_cons_succ]
      refine wpAnyT_take (oi := ⟨some 47, Op.move (Operand.tmp 3), 3, _, _, none⟩) (v := .int .i64 k) rfl (fun _ _ _ h => h) (by rfl) (by assumption) (fun wS hSw => ?_) ?_
      · (try dsimp only at hSw); go_simp
      simp only [Act.put, List.setIfInBounds_toArray, List.set_cons_zero, List.set_cons_succ]
      refine wpAnyT_take (oi := ⟨some 48, Op.binOp BinOp.add 3 (Operand.tmp 47) (Operand.const (Value.int IntKind.i64 1)) 3, 3, _, _, none⟩) (v := .int .i64 ((k : Int) + 1)) rfl (fun _ _ _ h => h) (by rfl) (by assumption) (fun wS hSw => ?_) ?_
      · (try dsimp only at hSw); go_simp
      simp only [Act.put, List.setIfInBounds_toArray, List.set_cons_zero, List.set_cons_succ]
      refine wpAnyT_take (oi := ⟨some 49, Op.indexAddr 23 (Operand.tmp 46) (Operand.tmp 48), 0, _, _, none⟩) (v := .pointer (some ⟨b2, o2 + (k + 1) * 2, none⟩)) rfl (fun _ _ _ h => h) (by rfl) (by assumption) (fun wS hSw => ?_) ?_
      · (try dsimp only at hSw); go_simp
      simp only [Act.put, List.setIfInBounds_toArray, List.set_cons_zero, List.set_cons_succ]
      refine wpAnyT_take (oi := ⟨some 50, Op.load 36 (Operand.tmp 49), 36, _, _, none⟩) (v := .agg #[.int .i64 y2, .int .i64 y3]) rfl (fun _ _ _ h => h) (by rfl) (by assumption) (fun wS hSw => ?_) ?_
      · (try dsimp only at hSw); go_simp
      simp only [Act.put, List.setIfInBounds_toArray, List.set_cons_zero, List.set_cons_succ]
      refine wpAnyT_take (oi := ⟨some 51, Op.load 36 (Operand.tmp 11), 36, _, _, none⟩) (v := .agg #[.int .i64 e0, .int .i64 e1]) rfl (fun _ _ _ h => h) (by rfl) (by assumption) (fun wS hSw => ?_) ?_
      · (try dsimp only at hSw); go_simp
      simp only [Act.put, List.setIfInBounds_toArray, List.set_cons_zero, List.set_cons_succ]
      refine wpAnyT_end ?_
      refine wpAnyH_listed #[true, true, true, true, true, true, true, true, true, true, false, false] (by kernel_rfl) ?_
      refine wpAnyH_ready (rs := [10]) (by kernel_rfl) (by simp) ?_
      refine AllReadyH.cons (o := ⟨some 52, Op.call { callee := Callee.value (Operand.func 72), args := #[Operand.tmp 45, Operand.tmp 50, Operand.tmp 51], argTypes := #[36, 36, 36] }, 4, _, _, none⟩) rfl (fun K hK => ?_) AllReadyH.nil
      go_simp
      go_at_call 72
      refine (Has.call X3 (ron_is _ _ _ _ _ _ _ HO2.out _)).mono ?_
      rintro e w6 ⟨rfl, X4⟩
      go_wp2_with fail
      clear hHeld
      refine hK.out _ _ (ms3.out _ X4) (fun hHeld => ?_)
      clear hK K
      try simp only [List.setIfInBounds_toArray, List.set_cons_zero, List.set_cons_succ]
      refine wpAnyH_listed #[true, true, true, true, true, true, true, true, true, true, true, false] (by kernel_rfl) ?_
      refine wpAnyT_begin [11] (by kernel_rfl) (by kernel_rfl) ?_
      refine wpAnyT_take (oi := ⟨some 13, Op.assign (Operand.tmp 52), 4, _, _, none⟩) (v := .bool ov2) rfl (fun _ _ _ h => h) (by rfl) (by assumption) (fun wS hSw => ?_) ?_
      · (try dsimp only at hSw); go_simp
      simp only [Act.put, List.setIfInBounds_toArray, List.set_cons_zero, List.set_cons_succ]
      refine wpAnyT_end ?_
      refine wpAnyH_listed #[true, true, true, true, true, true, true, true, true, true, true, true] (by kernel_rfl) ?_
      refine wpAnyH_done (by kernel_rfl) ?_ _
      clear hHeld
      clear ms3 X3 X1
      have hV6 := HV.out.later X4.low
      obtain ⟨c10, c11⟩ := RowP.cells0 hV6 HP6.out
      obtain ⟨c12, c13⟩ := hV6.cells HP7.out
      obtain ⟨k0, k1⟩ := X4.pt
      clear hV6
      cases ov1
      · have HN := Lib.hid (show f 0 = false by rw [HFN.out]; rfl)
        go_wp2_with fail
        go_region
        go_wp2_with fail
        go_roundw
        case rel => exact ⟨EndI.one HN.out, X4.drew.tail⟩
        case measure => simp [RowKit.intOf]
      · cases ov2
        · have HN := Lib.hid (show f 0 = false by rw [HFN.out]; rfl)
          go_wp2_with fail
          go_region
          go_wp2_with fail
          go_roundw
          case rel => exact ⟨EndI.one HN.out, X4.drew.tail⟩
          case measure => simp [RowKit.intOf]
        · rcases eq3 e0 e1 m0 m1 with ⟨e1', e2', e3'⟩ | ⟨e1', e2', e3'⟩ | ⟨e1', e3'⟩
          · have HN := Lib.hid (show f 0 = true by rw [HFN.out]; unfold eqP; rw [e3']; rfl)
            clear e3'
            go_wp2_with fail
            go_region
            go_wp2_with fail
            go_ret
            exact ⟨ret_b ((anyTo_yes (f := f) (k := 0) (n := 2) HN.out (by omega)).trans HF.out), X4.drew.low⟩
          all_goals
            rcases eq3 e0 e1 m2 m3 with ⟨g1', g2', g3'⟩ | ⟨g1', g2', g3'⟩ | ⟨g1', g3'⟩
            · have HN := Lib.hid (show f 0 = true by rw [HFN.out]; unfold eqP; rw [e3', g3']; rfl)
              clear e3' g3'
              go_wp2_with fail
              go_region
              go_wp2_with fail
              go_ret
              exact ⟨ret_b ((anyTo_yes (f := f) (k := 0) (n := 2) HN.out (by omega)).trans HF.out), X4.drew.low⟩
            all_goals
              have HN := Lib.hid (show f 0 = false by rw [HFN.out]; unfold eqP; rw [e3', g3']; rfl)
              clear e3' g3'
              go_wp2_with fail
              go_region
              go_wp2_with fail
              go_roundw
              case rel => exact ⟨EndI.one HN.out, X4.drew.tail⟩
              case measure => simp [RowKit.intOf]
    · have HPREV := Lib.hid hp
      clear hp
      have E2 := hI.push [.int .i64 e2, .int .i64 e3] 36
      change Has w _ (wr.alloc (.cells #[.int .i64 e2, .int .i64 e3] 36)) at E2
      go_wp2_with fail
      generalize wr.alloc (.cells #[.int .i64 e2, .int .i64 e3] 36) = w4 at *
      generalize wr.heap.size = G at *
      clear k0 k1 k2 k3 hI
      obtain ⟨ov1, ho1⟩ : ∃ v, onOf x0 x1 x2 x3 e2 e3 = v := ⟨_, rfl⟩
      obtain ⟨ov2, ho2⟩ : ∃ v, onOf y0 y1 y2 y3 e2 e3 = v := ⟨_, rfl⟩
      have hfn : f 1 = ((ov1 && ov2) && (eqP (e2, e3) (m0, m1) || eqP (e2, e3) (m2, m3))) := by rw [HF1.out]; unfold endQ bothP; rw [ho1, ho2]
      have HO1 := Lib.hid ho1
      have HO2 := Lib.hid ho2
      have HFN := Lib.hid hfn
      clear ho1 ho2 hfn
      have X0 := E2.drew
      have ms2 := Lib.hid (show ∀ w', Has w [(G, [.int .i64 e2, .int .i64 e3]), (E, [.int .i64 e0, .int .i64 e1, .int .i64 e2, .int .i64 e3])] w' → (w'.cell? ⟨b, o + i * 2, none⟩ = some (.int .i64 x0) ∧ w'.cell? ⟨b, o + i * 2 + 1, none⟩ = some (.int .i64 x1) ∧ w'.cell? ⟨b, o + (i + 1) * 2, none⟩ = some (.int .i64 x2) ∧ w'.cell? ⟨b, o + (i + 1) * 2 + 1, none⟩ = some (.int .i64 x3) ∧ w'.cell? ⟨G, 0, none⟩ = some (.int .i64 e2) ∧ w'.cell? ⟨G, 1, none⟩ = some (.int .i64 e3) ∧ w'.cell? ⟨E, 0, none⟩ = some (.int .i64 e0) ∧ w'.cell? ⟨E, 1, none⟩ = some (.int .i64 e1) ∧ w'.cell? ⟨E, 2, none⟩ = some (.int .i64 e2) ∧ w'.cell? ⟨E, 3, none⟩ = some (.int .i64 e3)) ∧ Has w [(G, [.int .i64 e2, .int .i64 e3]), (E, [.int .i64 e0, .int .i64 e1, .int .i64 e2, .int .i64 e3])] w' from fun w' h => by
        have hRb := HU.out.later h.low
        exact ⟨⟨(hRb.cells HP0.out).1, (hRb.cells HP0.out).2, (hRb.cells HP1.out).1, (hRb.cells HP1.out).2, h.fact (.head _) (i := 0) rfl, h.fact (.head _) (i := 1) rfl, h.tail.fact (.head _) (i := 0) rfl, h.tail.fact (.head _) (i := 1) rfl, h.tail.fact (.head _) (i := 2) rfl, h.tail.fact (.head _) (i := 3) rfl⟩, h⟩)
      refine wp_region_held_drew (S := (fun w' => (w'.cell? ⟨b, o + i * 2, none⟩ = some (.int .i64 x0) ∧ w'.cell? ⟨b, o + i * 2 + 1, none⟩ = some (.int .i64 x1) ∧ w'.cell? ⟨b, o + (i + 1) * 2, none⟩ = some (.int .i64 x2) ∧ w'.cell? ⟨b, o + (i + 1) * 2 + 1, none⟩ = some (.int .i64 x3) ∧ w'.cell? ⟨G, 0, none⟩ = some (.int .i64 e2) ∧ w'.cell? ⟨G, 1, none⟩ = some (.int .i64 e3) ∧ w'.cell? ⟨E, 0, none⟩ = some (.int .i64 e0) ∧ w'.cell? ⟨E, 1, none⟩ = some (.int .i64 e1) ∧ w'.cell? ⟨E, 2, none⟩ = some (.int .i64 e2) ∧ w'.cell? ⟨E, 3, none⟩ = some (.int .i64 e3)) ∧ Has w [(G, [.int .i64 e2, .int .i64 e3]), (E, [.int .i64 e0, .int .i64 e1, .int .i64 e2, .int .i64 e3])] w')) (by kernel_rfl) (ms2.out _ X0) (fun hHeld => ?_)
      refine wpAnyT_begin [0, 1, 2, 3, 4, 5, 6, 7, 8, 9] (by kernel_rfl) (by kernel_rfl) ?_
      refine wpAnyT_take (oi := ⟨some 31, Op.move (Operand.tmp 0), 23, _, _, none⟩) (v := .slice (some ⟨b, o, none⟩) (s + 1) cap) rfl (fun _ _ _ h => h) (by rfl) (by assumption) (fun wS hSw => ?_) ?_
      · (try dsimp only at hSw); go_simp
      simp only [Act.put, List.setIfInBounds_toArray, List.set_cons_zero, List.set_cons_succ]
      refine wpAnyT_take (oi := ⟨some 32, Op.move (Operand.tmp 2), 3, _, _, none⟩) (v := .int .i64 i) rfl (fun _ _ _ h => h) (by rfl) (by assumption) (fun wS hSw => ?_) ?_
      · (try dsimp only at hSw); go_simp
      simp only [Act.put, List.setIfInBounds_toArray, List.set_cons_zero, List.set_cons_succ]
      refine wpAnyT_take (oi := ⟨some 33, Op.indexAddr 23 (Operand.tmp 31) (Operand.tmp 32), 0, _, _, none⟩) (v := .pointer (some ⟨b, o + i * 2, none⟩)) rfl (fun _ _ _ h => h) (by rfl) (by assumption) (fun wS hSw => ?_) ?_
      · (try dsimp only at hSw); go_simp
      simp only [Act.put, List.setIfInBounds_toArray, List.set_cons_zero, List.set_cons_succ]
      refine wpAnyT_take (oi := ⟨some 34, Op.load 36 (Operand.tmp 33), 36, _, _, none⟩) (v := .agg #[.int .i64 x0, .int .i64 x1]) rfl (fun _ _ _ h => h) (by rfl) (by assumption) (fun wS hSw => ?_) ?_
      · (try dsimp only at hSw); go_simp
      simp only [Act.put, List.setIfInBounds_toArray, List.set_cons_zero, List.set_cons_succ]
      refine wpAnyT_take (oi := ⟨some 35, Op.move (Operand.tmp 0), 23, _, _, none⟩) (v := .slice (some ⟨b, o, none⟩) (s + 1) cap) rfl (fun _ _ _ h => h) (by rfl) (by assumption) (fun wS hSw => ?_) ?_
      · (try dsimp only at hSw); go_simp
      simp only [Act.put, List.setIfInBounds_toArray, List.set_cons_zero, List.set_cons_succ]
      refine wpAnyT_take (oi := ⟨some 36, Op.move (Operand.tmp 2), 3, _, _, none⟩) (v := .int .i64 i) rfl (fun _ _ _ h => h) (by rfl) (by assumption) (fun wS hSw => ?_) ?_
      · (try dsimp only at hSw); go_simp
      simp only [Act.put, List.setIfInBounds_toArray, List.set_cons_zero, List.set_cons_succ]
      refine wpAnyT_take (oi := ⟨some 37, Op.binOp BinOp.add 3 (Operand.tmp 36) (Operand.const (Value.int IntKind.i64 1)) 3, 3, _, _, none⟩) (v := .int .i64 ((i : Int) + 1)) rfl (fun _ _ _ h => h) (by rfl) (by assumption) (fun wS hSw => ?_) ?_
      · (try dsimp only at hSw); go_simp
      simp only [Act.put, List.setIfInBounds_toArray, List.set_cons_zero, List.set_cons_succ]
      refine wpAnyT_take (oi := ⟨some 38, Op.indexAddr 23 (Operand.tmp 35) (Operand.tmp 37), 0, _, _, none⟩) (v := .pointer (some ⟨b, o + (i + 1) * 2, none⟩)) rfl (fun _ _ _ h => h) (by rfl) (by assumption) (fun wS hSw => ?_) ?_
      · (try dsimp only at hSw); go_simp
      simp only [Act.put, List.setIfInBounds_toArray, List.set_cons_zero, List.set_cons_succ]
      refine wpAnyT_take (oi := ⟨some 39, Op.load 36 (Operand.tmp 38), 36, _, _, none⟩) (v := .agg #[.int .i64 x2, .int .i64 x3]) rfl (fun _ _ _ h => h) (by rfl) (by assumption) (fun wS hSw => ?_) ?_
      · (try dsimp only at hSw); go_simp
      simp only [Act.put, List.setIfInBounds_toArray, List.set_cons_zero, List.set_cons_succ]
      refine wpAnyT_take (oi := ⟨some 40, Op.load 36 (Operand.tmp 11), 36, _, _, none⟩) (v := .agg #[.int .i64 e2, .int .i64 e3]) rfl (fun _ _ _ h => h) (by rfl) (by assumption) (fun wS hSw => ?_) ?_
      · (try dsimp only at hSw); go_simp
      simp only [Act.put, List.setIfInBounds_toArray, List.set_cons_zero, List.set_cons_succ]
      refine wpAnyT_end ?_
      refine wpAnyH_listed #[true, true, true, true, true, true, true, true, true, true, false, false] (by kernel_rfl) ?_
      refine wpAnyH_ready (rs := [10]) (by kernel_rfl) (by simp) ?_
      refine AllReadyH.cons (o := ⟨some 41, Op.call { callee := Callee.value (Operand.func 72), args := #[Operand.tmp 34, Operand.tmp 39, Operand.tmp 40], argTypes := #[36, 36, 36] }, 4, _, _, none⟩) rfl (fun K hK => ?_) AllReadyH.nil
      go_simp
      go_at_call 72
      refine (Has.call X0 (ron_is _ _ _ _ _ _ _ HO1.out _)).mono ?_
      rintro e w5 ⟨rfl, X1⟩
      go_wp2_with fail
      clear hHeld
      refine hK.out _ _ (ms2.out _ X1) (fun hHeld => ?_)
      clear hK K
      try simp only [List.setIfInBounds_toArray, List.set_cons_zero, List.set_cons_succ]
      refine wpAnyH_listed #[true, true, true, true, true, true, true, true, true, true, true, false] (by kernel_rfl) ?_
      refine wpAnyT_begin [11] (by kernel_rfl) (by kernel_rfl) ?_
      refine wpAnyT_take (oi := ⟨some 12, Op.assign (Operand.tmp 41), 4, _, _, none⟩) (v := .bool ov1) rfl (fun _ _ _ h => h) (by rfl) (by assumption) (fun wS hSw => ?_) ?_
      · (try dsimp only at hSw); go_simp
      simp only [Act.put, List.setIfInBounds_toArray, List.set_cons_zero, List.set_cons_succ]
      refine wpAnyT_end ?_
      refine wpAnyH_listed #[true, true, true, true, true, true, true, true, true, true, true, true] (by kernel_rfl) ?_
      refine wpAnyH_done (by kernel_rfl) ?_ _
      clear hHeld
      clear ms2 X0 E2
      go_wp2_with fail
      have X3 := X1.drew
      have ms3 := Lib.hid (show ∀ w', Has w [(G, [.int .i64 e2, .int .i64 e3]), (E, [.int .i64 e0, .int .i64 e1, .int .i64 e2, .int .i64 e3])] w' → (w'.cell? ⟨b2, o2 + k * 2, none⟩ = some (.int .i64 y0) ∧ w'.cell? ⟨b2, o2 + k * 2 + 1, none⟩ = some (.int .i64 y1) ∧ w'.cell? ⟨b2, o2 + (k + 1) * 2, none⟩ = some (.int .i64 y2) ∧ w'.cell? ⟨b2, o2 + (k + 1) * 2 + 1, none⟩ = some (.int .i64 y3) ∧ w'.cell? ⟨G, 0, none⟩ = some (.int .i64 e2) ∧ w'.cell? ⟨G, 1, none⟩ = some (.int .i64 e3) ∧ w'.cell? ⟨E, 0, none⟩ = some (.int .i64 e0) ∧ w'.cell? ⟨E, 1, none⟩ = some (.int .i64 e1) ∧ w'.cell? ⟨E, 2, none⟩ = some (.int .i64 e2) ∧ w'.cell? ⟨E, 3, none⟩ = some (.int .i64 e3)) ∧ Has w [(G, [.int .i64 e2, .int .i64 e3]), (E, [.int .i64 e0, .int .i64 e1, .int .i64 e2, .int .i64 e3])] w' from fun w' h => by
        have hRb2 := HV.out.later h.low
        exact ⟨⟨(hRb2.cells HP2.out).1, (hRb2.cells HP2.out).2, (hRb2.cells HP3.out).1, (hRb2.cells HP3.out).2, h.fact (.head _) (i := 0) rfl, h.fact (.head _) (i := 1) rfl, h.tail.fact (.head _) (i := 0) rfl, h.tail.fact (.head _) (i := 1) rfl, h.tail.fact (.head _) (i := 2) rfl, h.tail.fact (.head _) (i := 3) rfl⟩, h⟩)
      refine wp_region_held_drew (S := (fun w' => (w'.cell? ⟨b2, o2 + k * 2, none⟩ = some (.int .i64 y0) ∧ w'.cell? ⟨b2, o2 + k * 2 + 1, none⟩ = some (.int .i64 y1) ∧ w'.cell? ⟨b2, o2 + (k + 1) * 2, none⟩ = some (.int .i64 y2) ∧ w'.cell? ⟨b2, o2 + (k + 1) * 2 + 1, none⟩ = some (.int .i64 y3) ∧ w'.cell? ⟨G, 0, none⟩ = some (.int .i64 e2) ∧ w'.cell? ⟨G, 1, none⟩ = some (.int .i64 e3) ∧ w'.cell? ⟨E, 0, none⟩ = some (.int .i64 e0) ∧ w'.cell? ⟨E, 1, none⟩ = some (.int .i64 e1) ∧ w'.cell? ⟨E, 2, none⟩ = some (.int .i64 e2) ∧ w'.cell? ⟨E, 3, none⟩ = some (.int .i64 e3)) ∧ Has w [(G, [.int .i64 e2, .int .i64 e3]), (E, [.int .i64 e0, .int .i64 e1, .int .i64 e2, .int .i64 e3])] w')) (by kernel_rfl) (ms3.out _ X3) (fun hHeld => ?_)
      refine wpAnyT_begin [0, 1, 2, 3, 4, 5, 6, 7, 8, 9] (by kernel_rfl) (by kernel_rfl) ?_
      refine wpAnyT_take (oi := ⟨some 42, Op.move (Operand.tmp 1), 23, _, _, none⟩) (v := .slice (some ⟨b2, o2, none⟩) (t + 1) cap2) rfl (fun _ _ _ h => h) (by rfl) (by assumption) (fun wS hSw => ?_) ?_
      · (try dsimp only at hSw); go_simp
      simp only [Act.put, List.setIfInBounds_toArray, List.set_cons_zero, List.set_cons_succ]
      refine wpAnyT_take (oi := ⟨some 43, Op.move (Operand.tmp 3), 3, _, _, none⟩) (v := .int .i64 k) rfl (fun _ _ _ h => h) (by rfl) (by assumption) (fun wS hSw => ?_) ?_
      · (try dsimp only at hSw); go_simp
      simp only [Act.put, List.setIfInBounds_toArray, List.set_cons_zero, List.set_cons_succ]
      refine wpAnyT_take (oi := ⟨some 44, Op.indexAddr 23 (Operand.tmp 42) (Operand.tmp 43), 0, _, _, none⟩) (v := .pointer (some ⟨b2, o2 + k * 2, none⟩)) rfl (fun _ _ _ h => h) (by rfl) (by assumption) (fun wS hSw => ?_) ?_
      · (try dsimp only at hSw); go_simp
      simp only [Act.put, List.setIfInBounds_toArray, List.set_cons_zero, List.set_cons_succ]
      refine wpAnyT_take (oi := ⟨some 45, Op.load 36 (Operand.tmp 44), 36, _, _, none⟩) (v := .agg #[.int .i64 y0, .int .i64 y1]) rfl (fun _ _ _ h => h) (by rfl) (by assumption) (fun wS hSw => ?_) ?_
      · (try dsimp only at hSw); go_simp
      simp only [Act.put, List.setIfInBounds_toArray, List.set_cons_zero, List.set_cons_succ]
      refine wpAnyT_take (oi := ⟨some 46, Op.move (Operand.tmp 1), 23, _, _, none⟩) (v := .slice (some ⟨b2, o2, none⟩) (t + 1) cap2) rfl (fun _ _ _ h => h) (by rfl) (by assumption) (fun wS hSw => ?_) ?_
      · (try dsimp only at hSw); go_simp
      simp only [Act.put, List.setIfInBounds_toArray, List.set_cons_zero, List.set_cons_succ]
      refine wpAnyT_take (oi := ⟨some 47, Op.move (Operand.tmp 3), 3, _, _, none⟩) (v := .int .i64 k) rfl (fun _ _ _ h => h) (by rfl) (by assumption) (fun wS hSw => ?_) ?_
      · (try dsimp only at hSw); go_simp
      simp only [Act.put, List.setIfInBounds_toArray, List.set_cons_zero, List.set_cons_succ]
      refine wpAnyT_take (oi := ⟨some 48, Op.binOp BinOp.add 3 (Operand.tmp 47) (Operand.const (Value.int IntKind.i64 1)) 3, 3, _, _, none⟩) (v := .int .i64 ((k : Int) + 1)) rfl (fun _ _ _ h => h) (by rfl) (by assumption) (fun wS hSw => ?_) ?_
      · (try dsimp only at hSw); go_simp
      simp only [Act.put, List.setIfInBounds_toArray, List.set_cons_zero, List.set_cons_succ]
      refine wpAnyT_take (oi := ⟨some 49, Op.indexAddr 23 (Operand.tmp 46) (Operand.tmp 48), 0, _, _, none⟩) (v := .pointer (some ⟨b2, o2 + (k + 1) * 2, none⟩)) rfl (fun _ _ _ h => h) (by rfl) (by assumption) (fun wS hSw => ?_) ?_
      · (try dsimp only at hSw); go_simp
      simp only [Act.put, List.setIfInBounds_toArray, List.set_cons_zero, List.set_cons_succ]
      refine wpAnyT_take (oi := ⟨some 50, Op.load 36 (Operand.tmp 49), 36, _, _, none⟩) (v := .agg #[.int .i64 y2, .int .i64 y3]) rfl (fun _ _ _ h => h) (by rfl) (by assumption) (fun wS hSw => ?_) ?_
      · (try dsimp only at hSw); go_simp
      simp only [Act.put, List.setIfInBounds_toArray, List.set_cons_zero, List.set_cons_succ]
      refine wpAnyT_take (oi := ⟨some 51, Op.load 36 (Operand.tmp 11), 36, _, _, none⟩) (v := .agg #[.int .i64 e2, .int .i64 e3]) rfl (fun _ _ _ h => h) (by rfl) (by assumption) (fun wS hSw => ?_) ?_
      · (try dsimp only at hSw); go_simp
      simp only [Act.put, List.setIfInBounds_toArray, List.set_cons_zero, List.set_cons_succ]
      refine wpAnyT_end ?_
      refine wpAnyH_listed #[true, true, true, true, true, true, true, true, true, true, false, false] (by kernel_rfl) ?_
      refine wpAnyH_ready (rs := [10]) (by kernel_rfl) (by simp) ?_
      refine AllReadyH.cons (o := ⟨some 52, Op.call { callee := Callee.value (Operand.func 72), args := #[Operand.tmp 45, Operand.tmp 50, Operand.tmp 51], argTypes := #[36, 36, 36] }, 4, _, _, none⟩) rfl (fun K hK => ?_) AllReadyH.nil
      go_simp
      go_at_call 72
      refine (Has.call X3 (ron_is _ _ _ _ _ _ _ HO2.out _)).mono ?_
      rintro e w6 ⟨rfl, X4⟩
      go_wp2_with fail
      clear hHeld
      refine hK.out _ _ (ms3.out _ X4) (fun hHeld => ?_)
      clear hK K
      try simp only [List.setIfInBounds_toArray, List.set_cons_zero, List.set_cons_succ]
      refine wpAnyH_listed #[true, true, true, true, true, true, true, true, true, true, true, false] (by kernel_rfl) ?_
      refine wpAnyT_begin [11] (by kernel_rfl) (by kernel_rfl) ?_
      refine wpAnyT_take (oi := ⟨some 13, Op.assign (Operand.tmp 52), 4, _, _, none⟩) (v := .bool ov2) rfl (fun _ _ _ h => h) (by rfl) (by assumption) (fun wS hSw => ?_) ?_
      · (try dsimp only at hSw); go_simp
      simp only [Act.put, List.setIfInBounds_toArray, List.set_cons_zero, List.set_cons_succ]
      refine wpAnyT_end ?_
      refine wpAnyH_listed #[true, true, true, true, true, true, true, true, true, true, true, true] (by kernel_rfl) ?_
      refine wpAnyH_done (by kernel_rfl) ?_ _
      clear hHeld
      clear ms3 X3 X1
      have hV6 := HV.out.later X4.low
      obtain ⟨c10, c11⟩ := RowP.cells0 hV6 HP6.out
      obtain ⟨c12, c13⟩ := hV6.cells HP7.out
      obtain ⟨k0, k1⟩ := X4.pt
      clear hV6
      cases ov1
      · have HN := Lib.hid (show f 1 = false by rw [HFN.out]; rfl)
        go_wp2_with fail
        go_region
        go_wp2_with fail
        go_roundw
        case rel => exact ⟨EndI.two HPREV.out HN.out, X4.drew.tail⟩
        case measure => simp [RowKit.intOf]
      · cases ov2
        · have HN := Lib.hid (show f 1 = false by rw [HFN.out]; rfl)
          go_wp2_with fail
          go_region
          go_wp2_with fail
          go_roundw
          case rel => exact ⟨EndI.two HPREV.out HN.out, X4.drew.tail⟩
          case measure => simp [RowKit.intOf]
        · rcases eq3 e2 e3 m0 m1 with ⟨e1', e2', e3'⟩ | ⟨e1', e2', e3'⟩ | ⟨e1', e3'⟩
          · have HN := Lib.hid (show f 1 = true by rw [HFN.out]; unfold eqP; rw [e3']; rfl)
            clear e3'
            go_wp2_with fail
            go_region
            go_wp2_with fail
            go_ret
            exact ⟨ret_b ((anyTo_yes (f := f) (k := 1) (n := 2) HN.out (by omega)).trans HF.out), X4.drew.low⟩
          all_goals
            rcases eq3 e2 e3 m2 m3 with ⟨g1', g2', g3'⟩ | ⟨g1', g2', g3'⟩ | ⟨g1', g3'⟩
            · have HN := Lib.hid (show f 1 = true by rw [HFN.out]; unfold eqP; rw [e3', g3']; rfl)
              clear e3' g3'
              go_wp2_with fail
              go_region
              go_wp2_with fail
              go_ret
              exact ⟨ret_b ((anyTo_yes (f := f) (k := 1) (n := 2) HN.out (by omega)).trans HF.out), X4.drew.low⟩
            all_goals
              have HN := Lib.hid (show f 1 = false by rw [HFN.out]; unfold eqP; rw [e3', g3']; rfl)
              clear e3' g3'
              go_wp2_with fail
              go_region
              go_wp2_with fail
              go_roundw
              case rel => exact ⟨EndI.two HPREV.out HN.out, X4.drew.tail⟩
              case measure => simp [RowKit.intOf]
    · have HN := Lib.hid (show anyTo f 2 = false by rw [anyTo, anyTo, anyTo, hp, hq]; rfl)
      clear hp hq
      go_wp2_with fail
      go_ret
      exact ⟨ret_b (HN.out.symm.trans HF.out), hI.low⟩

end Go.Proofs.Ytkejilomempogaa

namespace Go.Proofs.Ytkejilomempogaa
open Go.RowKit Go.Lib

def rcX (l m : List (Int × Int)) (i j : Nat) : Int := meetOf (pt l i).1 (pt l i).2 (pt l (i + 1)).1 (pt l (i + 1)).2 (pt m j).1 (pt m j).2 (pt m (j + 1)).1 (pt m (j + 1)).2
def rcI (l m : List (Int × Int)) (i j : Nat) : Bool := decide (rcX l m i j = 2) || (decide (rcX l m i j = 1) && !endR l m i j)
def rcO (l m : List (Int × Int)) (i : Nat) : Bool := anyTo (rcI l m i) (m.length - 1)
def rcrossP (l m : List (Int × Int)) : Bool := l.all rtP && (m.all rtP && anyTo (rcO l m) (l.length - 1))
theorem rend_is (u v : Value) (l m : List (Int × Int)) (i k : Nat) (w : World) (hu : RowP w u l) (hv : RowP w v m) (hi : i + 1 < l.length) (hk : k + 1 < m.length) (r : Bool) (h : endR l m i k = r) :
    Calls Try.prog 55 #[u, v, .int .i64 i, .int .i64 k] w fun e w' => e = .returned (.bool r) ∧ Below w.heap.size w w' := h ▸ rend_any u v l m i k w hu hv hi hk

set_option linter.unusedSimpArgs false in
set_option maxRecDepth 100000 in
set_option maxHeartbeats 16000000 in
theorem rcrosses_any (u v : Value) (l m : List (Int × Int)) (w : World) (hu : RowP w u l) (hv : RowP w v m) :
    Calls Try.prog 27 #[u, v] w fun e w' => e = .returned (.bool (rcrossP l m)) ∧ Below w.heap.size w w' := by
  have hu0 := hu
  have hv0 := hv
  obtain ⟨a, cap, rfl, hc1, hc2, -⟩ := hu0
  obtain ⟨a2, cap2, rfl, hc3, hc4, -⟩ := hv0
  cases h1 : l.all rtP
  · have HR := Lib.hid (show rcrossP l m = false by unfold rcrossP; rw [h1]; rfl)
    have HU := Lib.hid hu
    have H1 := Lib.hid h1
    clear h1 hu hv
    go_enter Try.func27, Try.ntmps27
    go_wp2_with fail
    refine (fine_is _ l w HU.out _ H1.out).mono ?_
    rintro e w1 ⟨rfl, g1⟩
    go_wp2_with fail
    go_ret
    exact ⟨ret_b HR.out.symm, g1⟩
  · cases h2 : m.all rtP
    · have HR := Lib.hid (show rcrossP l m = false by unfold rcrossP; rw [h1, h2]; rfl)
      have HU := Lib.hid hu
      have HV := Lib.hid hv
      have H1 := Lib.hid h1
      have H2 := Lib.hid h2
      clear h1 h2 hu hv
      go_enter Try.func27, Try.ntmps27
      go_wp2_with fail
      refine (fine_is _ l w HU.out _ H1.out).mono ?_
      rintro e w1 ⟨rfl, g1⟩
      go_wp2_with fail
      refine (fine_is _ m w1 (HV.out.later g1) _ H2.out).mono ?_
      rintro e w2 ⟨rfl, g2⟩
      go_wp2_with fail
      go_ret
      exact ⟨ret_b HR.out.symm, Grows.then g1 g2⟩
    · obtain ⟨r, hr⟩ : ∃ r, anyTo (rcO l m) (l.length - 1) = r := ⟨_, rfl⟩
      have hR : rcrossP l m = r := by unfold rcrossP; rw [h1, h2, hr]; rfl
      rw [hR]
      obtain ⟨s, hs⟩ : ∃ s, l.length = s := ⟨_, rfl⟩
      obtain ⟨t, ht⟩ : ∃ s, m.length = s := ⟨_, rfl⟩
      have hO : ∀ i, rcO l m i = anyTo (rcI l m i) (t - 1) := fun i => by unfold rcO; rw [ht]
      rw [hs] at hu hc1 hr ⊢
      rw [ht] at hv hc3 ⊢
      have HU := Lib.hid hu
      have HV := Lib.hid hv
      have H1 := Lib.hid h1
      have H2 := Lib.hid h2
      have HF := Lib.hid hr
      have HS := Lib.hid hs
      have HT := Lib.hid ht
      have HO := Lib.hid hO
      clear h1 h2 hr hs ht hu hv hR hO
      go_enter Try.func27, Try.ntmps27
      go_wp2_with fail
      refine (fine_is _ l w HU.out _ H1.out).mono ?_
      rintro e w1 ⟨rfl, g1⟩
      go_wp2_with fail
      refine (fine_is _ m w1 (HV.out.later g1) _ H2.out).mono ?_
      rintro e w2 ⟨rfl, g2⟩
      have g3 := Grows.then g1 g2
      clear g1 g2
      go_wp2_with fail
      go_loopw [5] (fun z wr => ∃ i : Nat, i ≤ s ∧ (i = 0 ∨ i + 1 ≤ s) ∧ z = .int .i64 i ∧ Hid (anyTo (rcO l m) i = false) ∧ Grows w wr) (fun z _ => s - (RowKit.intOf z).toNat)
      case atStart => exact ⟨0, Nat.zero_le _, .inl rfl, rfl, Lib.hid rfl, g3⟩
      case round =>
        clear g3
        obtain ⟨i, hi, hi2, rfl, HA, hG⟩ := hrel
        have is : IntKind.i64.wrap ((i : Int) + 1) = ((i + 1 : Nat) : Int) := by rw [IntWalk.i64_in _ (by omega)]; rfl
        by_cases hlt : i + 1 < s
        · have c1 : (i : Int) + 1 < s := by omega
          go_wp2_with fail
          go_loopw [6] (fun z wz => ∃ k : Nat, k ≤ t ∧ (k = 0 ∨ k + 1 ≤ t) ∧ z = .int .i64 k ∧ Hid (anyTo (rcI l m i) k = false) ∧ Grows w wz) (fun z _ => t - (RowKit.intOf z).toNat)
          case atStart => exact ⟨0, Nat.zero_le _, .inl rfl, rfl, Lib.hid rfl, hG⟩
          case round =>
            clear hG
            obtain ⟨k, hk, hk2, rfl, HB, hI⟩ := hrel
            have ks : IntKind.i64.wrap ((k : Int) + 1) = ((k + 1 : Nat) : Int) := by rw [IntWalk.i64_in _ (by omega)]; rfl
            by_cases hlk : k + 1 < t
            · have c6 : (k : Int) + 1 < t := by omega
              obtain ⟨b, o, rfl, -⟩ := (HU.out).spot (by rw [HS.out]; omega)
              obtain ⟨b2, o2, rfl, -⟩ := (HV.out).spot (by rw [HT.out]; omega)
              have p0 : l[i]? = some ((pt l i).1, (pt l i).2) := at_pt (by rw [HS.out]; omega)
              have p1 : l[i + 1]? = some ((pt l (i + 1)).1, (pt l (i + 1)).2) := at_pt (by rw [HS.out]; omega)
              have p2 : m[k]? = some ((pt m k).1, (pt m k).2) := at_pt (by rw [HT.out]; omega)
              have p3 : m[k + 1]? = some ((pt m (k + 1)).1, (pt m (k + 1)).2) := at_pt (by rw [HT.out]; omega)
              obtain ⟨X, hX⟩ : ∃ X, rcX l m i k = X := ⟨_, rfl⟩
              obtain ⟨q, hq⟩ : ∃ X, endR l m i k = X := ⟨_, rfl⟩
              have hI' : rcI l m i k = (decide (X = 2) || (decide (X = 1) && !q)) := by unfold rcI; rw [hX, hq]
              have hm : meetOf (pt l i).1 (pt l i).2 (pt l (i + 1)).1 (pt l (i + 1)).2 (pt m k).1 (pt m k).2 (pt m (k + 1)).1 (pt m (k + 1)).2 = X := hX
              clear hX
              generalize (pt l i).1 = x0 at *
              generalize (pt l i).2 = x1 at *
              generalize (pt l (i + 1)).1 = x2 at *
              generalize (pt l (i + 1)).2 = x3 at *
              generalize (pt m k).1 = y0 at *
              generalize (pt m k).2 = y1 at *
              generalize (pt m (k + 1)).1 = y2 at *
              generalize (pt m (k + 1)).2 = y3 at *
              have HP0 := Lib.hid p0
              have HP1 := Lib.hid p1
              have HP2 := Lib.hid p2
              have HP3 := Lib.hid p3
              have HM := Lib.hid hm
              have HQ := Lib.hid hq
              have HI := Lib.hid hI'
              clear p0 p1 p2 p3 hm hq hI'
              have d1 : (i : Int) < s := by omega
              have d2 : (0 : Int) ≤ i := by omega
              have d4 : (0 : Int) ≤ (i : Int) + 1 := by omega
              have d5 : ((i : Int) + 1).toNat = i + 1 := by omega
              have d6 : (k : Int) < t := by omega
              have d7 : (0 : Int) ≤ k := by omega
              have d9 : (0 : Int) ≤ (k : Int) + 1 := by omega
              have d0 : ((k : Int) + 1).toNat = k + 1 := by omega
              have X0 := (Has.nil hI).drew
              clear hI
              go_wp2_with fail
              have ms1 := Lib.hid (show ∀ w', Has w [] w' → (w'.cell? ⟨b, o + i * 2, none⟩ = some (.int .i64 x0) ∧ w'.cell? ⟨b, o + i * 2 + 1, none⟩ = some (.int .i64 x1) ∧ w'.cell? ⟨b, o + (i + 1) * 2, none⟩ = some (.int .i64 x2) ∧ w'.cell? ⟨b, o + (i + 1) * 2 + 1, none⟩ = some (.int .i64 x3) ∧ w'.cell? ⟨b2, o2 + k * 2, none⟩ = some (.int .i64 y0) ∧ w'.cell? ⟨b2, o2 + k * 2 + 1, none⟩ = some (.int .i64 y1) ∧ w'.cell? ⟨b2, o2 + (k + 1) * 2, none⟩ = some (.int .i64 y2) ∧ w'.cell? ⟨b2, o2 + (k + 1) * 2 + 1, none⟩ = some (.int .i64 y3)) ∧ Has w [] w' from fun w' h => by
                have hRb := HU.out.later h.low
                have hRb2 := HV.out.later h.low
                exact ⟨⟨(hRb.cells HP0.out).1, (hRb.cells HP0.out).2, (hRb.cells HP1.out).1, (hRb.cells HP1.out).2, (hRb2.cells HP2.out).1, (hRb2.cells HP2.out).2, (hRb2.cells HP3.out).1, (hRb2.cells HP3.out).2⟩, h⟩)
              refine wp_region_held_drew (S := (fun w' => (w'.cell? ⟨b, o + i * 2, none⟩ = some (.int .i64 x0) ∧ w'.cell? ⟨b, o + i * 2 + 1, none⟩ = some (.int .i64 x1) ∧ w'.cell? ⟨b, o + (i + 1) * 2, none⟩ = some (.int .i64 x2) ∧ w'.cell? ⟨b, o + (i + 1) * 2 + 1, none⟩ = some (.int .i64 x3) ∧ w'.cell? ⟨b2, o2 + k * 2, none⟩ = some (.int .i64 y0) ∧ w'.cell? ⟨b2, o2 + k * 2 + 1, none⟩ = some (.int .i64 y1) ∧ w'.cell? ⟨b2, o2 + (k + 1) * 2, none⟩ = some (.int .i64 y2) ∧ w'.cell? ⟨b2, o2 + (k + 1) * 2 + 1, none⟩ = some (.int .i64 y3)) ∧ Has w [] w')) (by kernel_rfl) (ms1.out _ X0) (fun hHeld => ?_)
              refine wpAnyT_begin [0, 1, 2, 3, 4, 5, 6, 7, 8] (by kernel_rfl) (by kernel_rfl) ?_
              refine wpAnyT_take (oi := ⟨some 30, Op.move (Operand.tmp 0), 23, _, _, none⟩) (v := .slice (some ⟨b, o, none⟩) s cap) rfl (fun _ _ _ h => h) (by rfl) (by assumption) (fun wS hSw => ?_) ?_
              · (try dsimp only at hSw); go_simp
              simp only [Act.put, List.setIfInBounds_toArray, List.set_cons_zero, List.set_cons_succ]
              refine wpAnyT_take (oi := ⟨some 31, Op.move (Operand.tmp 5), 3, _, _, none⟩) (v := .int .i64 i) rfl (fun _ _ _ h => h) (by rfl) (by assumption) (fun wS hSw => ?_) ?_
              · (try dsimp only at hSw); go_simp
              simp only [Act.put, List.setIfInBounds_toArray, List.set_cons_zero, List.set_cons_succ]
              refine wpAnyT_take (oi := ⟨some 32, Op.indexAddr 23 (Operand.tmp 30) (Operand.tmp 31), 0, _, _, none⟩) (v := .pointer (some ⟨b, o + i * 2, none⟩)) rfl (fun _ _ _ h => h) (by rfl) (by assumption) (fun wS hSw => ?_) ?_
              · (try dsimp only at hSw); go_simp
              simp only [Act.put, List.setIfInBounds_toArray, List.set_cons_zero, List.set_cons_succ]
              refine wpAnyT_take (oi := ⟨some 33, Op.load 36 (Operand.tmp 32), 36, _, _, none⟩) (v := .agg #[.int .i64 x0, .int .i64 x1]) rfl (fun _ _ _ h => h) (by rfl) (by assumption) (fun wS hSw => ?_) ?_
              · (try dsimp only at hSw); go_simp
              simp only [Act.put, List.setIfInBounds_toArray, List.set_cons_zero, List.set_cons_succ]
              refine wpAnyT_take (oi := ⟨some 34, Op.move (Operand.tmp 0), 23, _, _, none⟩) (v := .slice (some ⟨b, o, none⟩) s cap) rfl (fun _ _ _ h => h) (by rfl) (by assumption) (fun wS hSw => ?_) ?_
              · (try dsimp only at hSw); go_simp
              simp only [Act.put, List.setIfInBounds_toArray, List.set_cons_zero, List.set_cons_succ]
              refine wpAnyT_take (oi := ⟨some 35, Op.move (Operand.tmp 5), 3, _, _, none⟩) (v := .int .i64 i) rfl (fun _ _ _ h => h) (by rfl) (by assumption) (fun wS hSw => ?_) ?_
              · (try dsimp only at hSw); go_simp
              simp only [Act.put, List.setIfInBounds_toArray, List.set_cons_zero, List.set_cons_succ]
              refine wpAnyT_take (oi := ⟨some 36, Op.binOp BinOp.add 3 (Operand.tmp 35) (Operand.const (Value.int IntKind.i64 1)) 3, 3, _, _, none⟩) (v := .int .i64 ((i : Int) + 1)) rfl (fun _ _ _ h => h) (by rfl) (by assumption) (fun wS hSw => ?_) ?_
              · (try dsimp only at hSw); go_simp
              simp only [Act.put, List.setIfInBounds_toArray, List.set_cons_zero, List.set_cons_succ]
              refine wpAnyT_take (oi := ⟨some 37, Op.indexAddr 23 (Operand.tmp 34) (Operand.tmp 36), 0, _, _, none⟩) (v := .pointer (some ⟨b, o + (i + 1) * 2, none⟩)) rfl (fun _ _ _ h => h) (by rfl) (by assumption) (fun wS hSw => ?_) ?_
              · (try dsimp only at hSw); go_simp
              simp only [Act.put, List.setIfInBounds_toArray, List.set_cons_zero, List.set_cons_succ]
              refine wpAnyT_take (oi := ⟨some 38, Op.load 36 (Operand.tmp 37), 36, _, _, none⟩) (v := .agg #[.int .i64 x2, .int .i64 x3]) rfl (fun _ _ _ h => h) (by rfl) (by assumption) (fun wS hSw => ?_) ?_
              · (try dsimp only at hSw); go_simp
              simp only [Act.put, List.setIfInBounds_toArray, List.set_cons_zero, List.set_cons_succ]
              refine wpAnyT_end ?_
              refine wpAnyH_listed #[true, true, true, true, true, true, true, true, true, false, false, false, false, false, false, false, false, false, false, false] (by kernel_rfl) ?_
              refine wpAnyT_begin [9, 10, 11, 12, 13, 14, 15, 16, 17] (by kernel_rfl) (by kernel_rfl) ?_
              refine wpAnyT_take (oi := ⟨some 39, Op.move (Operand.tmp 1), 23, _, _, none⟩) (v := .slice (some ⟨b2, o2, none⟩) t cap2) rfl (fun _ _ _ h => h) (by rfl) (by assumption) (fun wS hSw => ?_) ?_
              · (try dsimp only at hSw); go_simp
              simp only [Act.put, List.setIfInBounds_toArray, List.set_cons_zero, List.set_cons_succ]
              refine wpAnyT_take (oi := ⟨some 40, Op.move (Operand.tmp 6), 3, _, _, none⟩) (v := .int .i64 k) rfl (fun _ _ _ h => h) (by rfl) (by assumption) (fun wS hSw => ?_) ?_
              · (try dsimp only at hSw); go_simp
              simp only [Act.put, List.setIfInBounds_toArray, List.set_cons_zero, List.set_cons_succ]
              refine wpAnyT_take (oi := ⟨some 41, Op.indexAddr 23 (Operand.tmp 39) (Operand.tmp 40), 0, _, _, none⟩) (v := .pointer (some ⟨b2, o2 + k * 2, none⟩)) rfl (fun _ _ _ h => h) (by rfl) (by assumption) (fun wS hSw => ?_) ?_
              · (try dsimp only at hSw); go_simp
              simp only [Act.put, List.setIfInBounds_toArray, List.set_cons_zero, List.set_cons_succ]
              refine wpAnyT_take (oi := ⟨some 42, Op.load 36 (Operand.tmp 41), 36, _, _, none⟩) (v := .agg #[.int .i64 y0, .int .i64 y1]) rfl (fun _ _ _ h => h) (by rfl) (by assumption) (fun wS hSw => ?_) ?_
              · (try dsimp only at hSw); go_simp
              simp only [Act.put, List.setIfInBounds_toArray, List.set_cons_zero, List.set_cons_succ]
              refine wpAnyT_take (oi := ⟨some 43, Op.move (Operand.tmp 1), 23, _, _, none⟩) (v := .slice (some ⟨b2, o2, none⟩) t cap2) rfl (fun _ _ _ h => h) (by rfl) (by assumption) (fun wS hSw => ?_) ?_
              · (try dsimp only at hSw); go_simp
              simp only [Act.put, List.setIfInBounds_toArray, List.set_cons_zero, List.set_cons_succ]
              refine wpAnyT_take (oi := ⟨some 44, Op.move (Operand.tmp 6), 3, _, _, none⟩) (v := .int .i64 k) rfl (fun _ _ _ h => h) (by rfl) (by assumption) (fun wS hSw => ?_) ?_
              · (try dsimp only at hSw); go_simp
              simp only [Act.put, List.setIfInBounds_toArray, List.set_cons_zero, List.set_cons_succ]
              refine wpAnyT_take (oi := ⟨some 45, Op.binOp BinOp.add 3 (Operand.tmp 44) (Operand.const (Value.int IntKind.i64 1)) 3, 3, _, _, none⟩) (v := .int .i64 ((k : Int) + 1)) rfl (fun _ _ _ h => h) (by rfl) (by assumption) (fun wS hSw => ?_) ?_
              · (try dsimp only at hSw); go_simp
              simp only [Act.put, List.setIfInBounds_toArray, List.set_cons_zero, List.set_cons_succ]
              refine wpAnyT_take (oi := ⟨some 46, Op.indexAddr 23 (Operand.tmp 43) (Operand.tmp 45), 0, _, _, none⟩) (v := .pointer (some ⟨b2, o2 + (k + 1) * 2, none⟩)) rfl (fun _ _ _ h => h) (by rfl) (by assumption) (fun wS hSw => ?_) ?_
              · (try dsimp only at hSw); go_simp
              simp only [Act.put, List.setIfInBounds_toArray, List.set_cons_zero, List.set_cons_succ]
              refine wpAnyT_take (oi := ⟨some 47, Op.load 36 (Operand.tmp 46), 36, _, _, none⟩) (v := .agg #[.int .i64 y2, .int .i64 y3]) rfl (fun _ _ _ h => h) (by rfl) (by assumption) (fun wS hSw => ?_) ?_
              · (try dsimp only at hSw); go_simp
              simp only [Act.put, List.setIfInBounds_toArray, List.set_cons_zero, List.set_cons_succ]
              refine wpAnyT_end ?_
              refine wpAnyH_listed #[true, true, true, true, true, true, true, true, true, true, true, true, true, true, true, true, true, true, false, false] (by kernel_rfl) ?_
              refine wpAnyH_ready (rs := [18]) (by kernel_rfl) (by simp) ?_
              refine AllReadyH.cons (o := ⟨some 48, Op.call { callee := Callee.value (Operand.func 38), args := #[Operand.tmp 33, Operand.tmp 38, Operand.tmp 42, Operand.tmp 47], argTypes := #[36, 36, 36, 36] }, 3, _, _, none⟩) rfl (fun K hK => ?_) AllReadyH.nil
              go_simp
              go_at_call 38
              refine (Has.call X0 (rmeet_is _ _ _ _ _ _ _ _ _ HM.out _)).mono ?_
              rintro e w3 ⟨rfl, X1⟩
              go_wp2_with fail
              clear hHeld
              refine hK.out _ _ (ms1.out _ X1) (fun hHeld => ?_)
              clear hK K
              try simp only [List.setIfInBounds_toArray, List.set_cons_zero, List.set_cons_succ]
              refine wpAnyH_listed #[true, true, true, true, true, true, true, true, true, true, true, true, true, true, true, true, true, true, true, false] (by kernel_rfl) ?_
              refine wpAnyT_begin [19] (by kernel_rfl) (by kernel_rfl) ?_
              refine wpAnyT_take (oi := ⟨some 7, Op.assign (Operand.tmp 48), 3, _, _, none⟩) (v := .int .i64 X) rfl (fun _ _ _ h => h) (by rfl) (by assumption) (fun wS hSw => ?_) ?_
              · (try dsimp only at hSw); go_simp
              simp only [Act.put, List.setIfInBounds_toArray, List.set_cons_zero, List.set_cons_succ]
              refine wpAnyT_end ?_
              refine wpAnyH_listed #[true, true, true, true, true, true, true, true, true, true, true, true, true, true, true, true, true, true, true, true] (by kernel_rfl) ?_
              refine wpAnyH_done (by kernel_rfl) ?_ _
              clear hHeld
              clear ms1 X0
              by_cases q2 : X = 2
              · have f2 : (X == 2) = true := by rw [beq_iff_eq]; exact q2
                have HN := Lib.hid (show rcI l m i k = true by rw [HI.out, q2]; rfl)
                clear q2
                go_wp2_with fail
                go_ret
                exact ⟨ret_b ((anyTo_yes (f := rcO l m) (k := i) (n := s - 1) (by rw [HO.out, ← anyTo_yes (f := rcI l m i) (k := k) (n := t - 1) HN.out (by omega)]) (by omega)).trans HF.out), X1.low⟩
              · have f2 : (X == 2) = false := by rw [beq_eq_false_iff_ne]; exact q2
                by_cases q1 : X = 1
                · have f1 : (X == 1) = true := by rw [beq_iff_eq]; exact q1
                  cases q
                  · have HN := Lib.hid (show rcI l m i k = true by rw [HI.out, q1]; rfl)
                    clear q1 q2
                    go_wp2_with fail
                    refine (Has.call X1 (rend_is _ _ l m i k _ (HU.out.later X1.low) (HV.out.later X1.low) (by rw [HS.out]; omega) (by rw [HT.out]; omega) _ HQ.out)).mono ?_
                    rintro e w4 ⟨rfl, X2⟩
                    go_wp2_with fail
                    go_ret
                    exact ⟨ret_b ((anyTo_yes (f := rcO l m) (k := i) (n := s - 1) (by rw [HO.out, ← anyTo_yes (f := rcI l m i) (k := k) (n := t - 1) HN.out (by omega)]) (by omega)).trans HF.out), X2.low⟩
                  · have HN := Lib.hid (show rcI l m i k = false by rw [HI.out, q1]; rfl)
                    clear q1 q2
                    go_wp2_with fail
                    refine (Has.call X1 (rend_is _ _ l m i k _ (HU.out.later X1.low) (HV.out.later X1.low) (by rw [HS.out]; omega) (by rw [HT.out]; omega) _ HQ.out)).mono ?_
                    rintro e w4 ⟨rfl, X2⟩
                    go_wp2_with fail
                    go_roundw
                    case rel => exact ⟨k + 1, by omega, .inr (by omega), by go_num, Lib.hid (anyTo_no HB.out HN.out), X2.low⟩
                    case measure => simp [RowKit.intOf]; omega
                · have f1 : (X == 1) = false := by rw [beq_eq_false_iff_ne]; exact q1
                  have HN := Lib.hid (show rcI l m i k = false by rw [HI.out, decide_eq_false q2, decide_eq_false q1]; rfl)
                  clear q1 q2
                  go_wp2_with fail
                  go_roundw
                  case rel => exact ⟨k + 1, by omega, .inr (by omega), by go_num, Lib.hid (anyTo_no HB.out HN.out), X1.low⟩
                  case measure => simp [RowKit.intOf]; omega
            · have hkm : k = t - 1 := by omega
              have HN := Lib.hid (show rcO l m i = false by rw [HO.out, ← hkm]; exact HB.out)
              go_wp2_with fail
              go_roundw
              case rel => exact ⟨i + 1, by omega, .inr (by omega), by go_num, Lib.hid (anyTo_no HA.out HN.out), hI⟩
              case measure => simp [RowKit.intOf]; omega
        · have him : i = s - 1 := by omega
          go_wp2_with fail
          go_ret
          exact ⟨ret_b (by rw [← HF.out, ← him, HA.out]), hG⟩

end Go.Proofs.Ytkejilomempogaa
