/- The law of corners: they are in their triangle, whose order plays no part; what is in it touches it, what is apart does not. -/
import Derived.Test.YtkejilomempogaaXc
import Derived.Test.YtkejilomempogaaSn
namespace Go.Proofs.Ytkejilomempogaa
open Go.RowKit Go.Lib

def red (p : Int × Int) : Int × Int := (p.1.tmod 30, p.2.tmod 30)
def red5 (L : List (Int × Int)) (k : Nat) : List (Int × Int) := (L.take k).map red ++ L.drop k
theorem red5_at {L : List (Int × Int)} {k : Nat} {p : Int × Int} (h : L[k]? = some p) : (red5 L k)[k]? = some p := by
  have hk : k < L.length := by
    rcases Nat.lt_or_ge k L.length with h1 | h1
    · exact h1
    · rw [List.getElem?_eq_none h1] at h; cases h
  unfold red5
  rw [List.getElem?_append_right (by simp; omega)]
  have e : ((L.take k).map red).length = k := by simp; omega
  rw [e, Nat.sub_self, List.getElem?_drop, Nat.add_zero]; exact h
theorem red5_next {L : List (Int × Int)} {k : Nat} {p : Int × Int} (h : L[k]? = some p) : (red5 L k).set k (red p) = red5 L (k + 1) := by
  have hk : k < L.length := by
    rcases Nat.lt_or_ge k L.length with h1 | h1
    · exact h1
    · rw [List.getElem?_eq_none h1] at h; cases h
  unfold red5
  have e : ((L.take k).map red).length = k := by simp; omega
  have hd : L.drop k = p :: L.drop (k + 1) := by
    rw [List.getElem?_eq_getElem hk] at h
    rw [List.drop_eq_getElem_cons hk]; injection h with h; rw [h]
  rw [List.set_append_right _ _ (by omega), e, Nat.sub_self, hd, List.set_cons_zero, List.take_add_one, h, List.map_append, List.append_assoc]
  rfl
theorem Has.ins {w0 w : World} {p : Nat × List Value} {l1 l2 : List (Nat × List Value)} (h : Has w0 (p :: (l1 ++ l2)) w) : Has w0 (l1 ++ p :: l2) w := h.perm List.perm_middle.symm
theorem Has.front {w0 w : World} {p : Nat × List Value} {l1 l2 : List (Nat × List Value)} (h : Has w0 (l1 ++ p :: l2) w) : Has w0 (p :: (l1 ++ l2)) w := h.perm List.perm_middle
/-- Five blocks made in any order. -/
structure St5 where
  a : Option Nat
  b : Option Nat
  c : Option Nat
  d : Option Nat
  e : Option Nat
theorem row_part {W : World} {b o n c : Nat} {L ps : List (Int × Int)} (h : Cells W b (flat L)) (hn : ps.length = n) (h1 : n ≤ c) (h2 : (c : Int) ≤ 9223372036854775807) (ho : ∀ i p, ps[i]? = some p → L[o + i]? = some p) : RowP W (.slice (some ⟨b, o * 2, none⟩) n c) ps := by
  subst hn
  refine ⟨_, c, rfl, h1, h2, .inr ⟨b, o * 2, rfl, fun i p hp => ?_⟩⟩
  have e := flat_at (ho i p hp)
  rw [Nat.add_mul] at e
  exact ⟨(h _ _ e.1).1, (h _ _ e.2).1⟩
theorem v32 (v : Value) (ps : List (Int × Int)) (w : World) (hv : RowP w v ps) (x y z t : Int) (h : bxo ps = ((x, y), (z, t))) : Calls Try.prog 32 #[v] w fun e w' => e = .returned (.agg #[.int .i64 x, .int .i64 y, .int .i64 z, .int .i64 t]) ∧ Below w.heap.size w w' := by
  have := box_any v ps w hv
  rw [h] at this; exact this
theorem v31 (a0 a1 a2 a3 b0 b1 b2 b3 : Int) (w : World) (r : Bool) (h : nearOf a0 a1 a2 a3 b0 b1 b2 b3 = r) : Calls Try.prog 31 #[.agg #[.int .i64 a0, .int .i64 a1, .int .i64 a2, .int .i64 a3], .agg #[.int .i64 b0, .int .i64 b1, .int .i64 b2, .int .i64 b3]] w fun e w' => e = .returned (.bool r) ∧ Below w.heap.size w w' := h ▸ near_any a0 a1 a2 a3 b0 b1 b2 b3 w
/-- What the law compares. -/
structure CornF (a b c d e : Int × Int) (i t nr : Bool) : Prop where
  a1 : inP a b c d = i
  a2 : inP a b c a = true
  a3 : inP a b c b = true
  a4 : inP a b c c = true
  a5 : inP b c a d = i
  a6 : inP c b a d = i
  b1 : touchP a b c d e = t
  b2 : touchP a b c e d = t
  b3 : touchP c b a d e = t
  b4 : i = true → eqP d a = false → eqP d c = false → t = true
  b5 : nearP [a, b, c] [d, e] = nr
  b6 : nr = false → t = false
theorem rt30 {x y : Int} (hx : -30 < x ∧ x < 30) (hy : -30 < y ∧ y < 30) : rtP (x, y) = true := by unfold rtP; rw [inl_iff]; simp only; omega
theorem cornF {a b c d e : Int × Int} (ha : rtP a = true) (hb : rtP b = true) (hc : rtP c = true) (_hd : rtP d = true) (he : rtP e = true) : ∃ i t nr, CornF a b c d e i t nr := by
  refine ⟨_, _, _, rfl, in_corner ha hb hc, in_corner2 ha hb hc, in_corner3 ha hb hc, in_next a b c d, in_flip a b c d, rfl, touch_de a b c d e, touch_ca a b c d e, fun h1 h2 h3 => touch_in he h1 h2 h3, rfl, fun h => ?_⟩
  cases ht : touchP a b c d e
  · rfl
  · rw [touch_near ht] at h; cases h

attribute [local go_sem] Oper.semAt_some
set_option linter.unusedSimpArgs false in
set_option linter.unusedVariables false in
set_option maxRecDepth 100000 in
set_option maxHeartbeats 64000000 in
theorem corners_any (c0 c1 c2 c3 c4 c5 c6 c7 c8 c9 : Int) (w : World) :
    Calls Try.prog 7 #[.agg #[.int .i64 c0, .int .i64 c1, .int .i64 c2, .int .i64 c3, .int .i64 c4, .int .i64 c5, .int .i64 c6, .int .i64 c7, .int .i64 c8, .int .i64 c9]] w fun e w' => e = .returned (.bool true) ∧ Below w.heap.size w w' := by
  have C0 := (Has.nil (Below.refl w.heap.size w)).push [.int .i64 c0, .int .i64 c1, .int .i64 c2, .int .i64 c3, .int .i64 c4, .int .i64 c5, .int .i64 c6, .int .i64 c7, .int .i64 c8, .int .i64 c9] 42
  go_enter Try.func7, Try.ntmps7
  go_wp2_with fail
  change Has w _ (w.alloc (.cells #[.int .i64 c0, .int .i64 c1, .int .i64 c2, .int .i64 c3, .int .i64 c4, .int .i64 c5, .int .i64 c6, .int .i64 c7, .int .i64 c8, .int .i64 c9] 42)) at C0
  generalize w.alloc (.cells #[.int .i64 c0, .int .i64 c1, .int .i64 c2, .int .i64 c3, .int .i64 c4, .int .i64 c5, .int .i64 c6, .int .i64 c7, .int .i64 c8, .int .i64 c9] 42) = w0 at *
  generalize w.heap.size = P at *
  refine (calls_two C0 (sane_any _)).mono ?_
  rintro e w1 ⟨rfl, C1, -⟩
  clear C0
  go_wp2_with fail
  have C2 : Has w [(P, flat (red5 [(c0, c1), (c2, c3), (c4, c5), (c6, c7), (c8, c9)] 0))] w1 := C1
  clear C1
  obtain ⟨L, hL⟩ : ∃ L : List (Int × Int), [(c0, c1), (c2, c3), (c4, c5), (c6, c7), (c8, c9)] = L := ⟨_, rfl⟩
  have hlen : L.length = 5 := by rw [← hL]; rfl
  have HL := Lib.hid hL
  rw [hL] at C2
  clear hL
  go_loopw [4] (fun i wr => ∃ k : Nat, k ≤ 5 ∧ i = .int .i64 k ∧ Has w [(P, flat (red5 L k))] wr) (fun i _ => 5 - (RowKit.intOf i).toNat)
  case atStart => exact ⟨0, by omega, rfl, C2⟩
  case round =>
    clear C2
    obtain ⟨k, hk, rfl, hI⟩ := hrel
    by_cases hlt : k < 5
    · obtain ⟨x, y, hp⟩ := some_pt (ps := L) (k := k) (by omega)
      have hq := flat_at (red5_at hp)
      have e2 : ((flat (red5 L k)).set (k * 2) (.int .i64 (x.tmod 30))).set (k * 2 + 1) (.int .i64 (y.tmod 30)) = flat (red5 L (k + 1)) := by
        rw [flat_set]
        exact congrArg flat (red5_next hp)
      have b1 : (k : Int) < 5 := by omega
      have b2 : (0 : Int) ≤ (k : Int) := by omega
      have b3 : (k * 2 + 1) < (flat (red5 L k)).length := by
        rcases Nat.lt_or_ge (k * 2 + 1) (flat (red5 L k)).length with h1 | h1
        · exact h1
        · have h2 := hq.2; rw [List.getElem?_eq_none h1] at h2; cases h2
      have HQ1 := Lib.hid hq.1
      have HQ2 := Lib.hid hq.2
      have HE2 := Lib.hid e2
      clear hp hq e2
      obtain ⟨F2, hF2⟩ : ∃ F, flat (red5 L (k + 1)) = F := ⟨_, rfl⟩
      rw [hF2] at HE2
      have HF2 := Lib.hid hF2
      clear hF2
      generalize flat (red5 L k) = F1 at *
      go_wp2_with fail
      refine plain_Z 13 (fun w' => (w'.cell? ⟨P, k * 2, none⟩ = some (.int .i64 x) ∧ w'.cell? ⟨P, k * 2 + 1, none⟩ = some (.int .i64 y))) (by kernel_rfl) ?_
      have X0 := hI.drew
      have hHeld : (fun w' => (w'.cell? ⟨P, k * 2, none⟩ = some (.int .i64 x) ∧ w'.cell? ⟨P, k * 2 + 1, none⟩ = some (.int .i64 y))) wr.drew := ⟨X0.fact (.head _) HQ1.out, X0.fact (.head _) HQ2.out⟩
      generalize wr.drew = w7 at *
      clear hI
      try dsimp only at hHeld
      refine wpAnyZ_take (i := 0) (oi := ⟨some 17, Op.move (Operand.tmp 4), 3, _, _, none⟩) (oz := ⟨none, Op.store 36 (Operand.tmp 29) (Operand.tmp 28), 0, _, _, none⟩) (v := .int .i64 k) rfl rfl (by kernel_rfl) (fun _ _ _ h => h) (by rfl) (by assumption) (fun wS hSw => ?_) ?_
      · (try dsimp only at hSw); go_simp
      simp only [Act.put, List.setIfInBounds_toArray, List.set_cons_zero, List.set_cons_succ]
      refine wpAnyZ_take (i := 1) (oi := ⟨some 18, Op.move (Operand.tmp 4), 3, _, _, none⟩) (oz := ⟨none, Op.store 36 (Operand.tmp 29) (Operand.tmp 28), 0, _, _, none⟩) (v := .int .i64 k) rfl rfl (by kernel_rfl) (fun _ _ _ h => h) (by rfl) (by assumption) (fun wS hSw => ?_) ?_
      · (try dsimp only at hSw); go_simp
      simp only [Act.put, List.setIfInBounds_toArray, List.set_cons_zero, List.set_cons_succ]
      refine wpAnyZ_take (i := 2) (oi := ⟨some 19, Op.indexAddr 42 (Operand.tmp 1) (Operand.tmp 18), 0, _, _, none⟩) (oz := ⟨none, Op.store 36 (Operand.tmp 29) (Operand.tmp 28), 0, _, _, none⟩) (v := .pointer (some ⟨P, k * 2, none⟩)) rfl rfl (by kernel_rfl) (fun _ _ _ h => h) (by rfl) (by assumption) (fun wS hSw => ?_) ?_
      · (try dsimp only at hSw); go_simp
      simp only [Act.put, List.setIfInBounds_toArray, List.set_cons_zero, List.set_cons_succ]
      refine wpAnyZ_take (i := 3) (oi := ⟨some 20, Op.fieldAddr 36 (Operand.tmp 19) 0, 0, _, _, none⟩) (oz := ⟨none, Op.store 36 (Operand.tmp 29) (Operand.tmp 28), 0, _, _, none⟩) (v := .pointer (some ⟨P, k * 2, none⟩)) rfl rfl (by kernel_rfl) (fun _ _ _ h => h) (by rfl) (by assumption) (fun wS hSw => ?_) ?_
      · (try dsimp only at hSw); go_simp
      simp only [Act.put, List.setIfInBounds_toArray, List.set_cons_zero, List.set_cons_succ]
      refine wpAnyZ_take (i := 4) (oi := ⟨some 21, Op.load 3 (Operand.tmp 20), 3, _, _, none⟩) (oz := ⟨none, Op.store 36 (Operand.tmp 29) (Operand.tmp 28), 0, _, _, none⟩) (v := .int .i64 x) rfl rfl (by kernel_rfl) (fun _ _ _ h => h) (by rfl) (by assumption) (fun wS hSw => ?_) ?_
      · (try dsimp only at hSw); go_simp
      simp only [Act.put, List.setIfInBounds_toArray, List.set_cons_zero, List.set_cons_succ]
      refine wpAnyZ_take (i := 5) (oi := ⟨some 22, Op.binOp BinOp.rem 3 (Operand.tmp 21) (Operand.const (Value.int IntKind.i64 30)) 3, 3, _, _, none⟩) (oz := ⟨none, Op.store 36 (Operand.tmp 29) (Operand.tmp 28), 0, _, _, none⟩) (v := .int .i64 (x.tmod 30)) rfl rfl (by kernel_rfl) (fun _ _ _ h => h) (by rfl) (by assumption) (fun wS hSw => ?_) ?_
      · (try dsimp only at hSw); go_simp
      simp only [Act.put, List.setIfInBounds_toArray, List.set_cons_zero, List.set_cons_succ]
      refine wpAnyZ_take (i := 6) (oi := ⟨some 23, Op.move (Operand.tmp 4), 3, _, _, none⟩) (oz := ⟨none, Op.store 36 (Operand.tmp 29) (Operand.tmp 28), 0, _, _, none⟩) (v := .int .i64 k) rfl rfl (by kernel_rfl) (fun _ _ _ h => h) (by rfl) (by assumption) (fun wS hSw => ?_) ?_
      · (try dsimp only at hSw); go_simp
      simp only [Act.put, List.setIfInBounds_toArray, List.set_cons_zero, List.set_cons_succ]
      refine wpAnyZ_take (i := 7) (oi := ⟨some 24, Op.indexAddr 42 (Operand.tmp 1) (Operand.tmp 23), 0, _, _, none⟩) (oz := ⟨none, Op.store 36 (Operand.tmp 29) (Operand.tmp 28), 0, _, _, none⟩) (v := .pointer (some ⟨P, k * 2, none⟩)) rfl rfl (by kernel_rfl) (fun _ _ _ h => h) (by rfl) (by assumption) (fun wS hSw => ?_) ?_
      · (try dsimp only at hSw); go_simp
      simp only [Act.put, List.setIfInBounds_toArray, List.set_cons_zero, List.set_cons_succ]
      refine wpAnyZ_take (i := 8) (oi := ⟨some 25, Op.fieldAddr 36 (Operand.tmp 24) 1, 0, _, _, none⟩) (oz := ⟨none, Op.store 36 (Operand.tmp 29) (Operand.tmp 28), 0, _, _, none⟩) (v := .pointer (some ⟨P, k * 2 + 1, none⟩)) rfl rfl (by kernel_rfl) (fun _ _ _ h => h) (by rfl) (by assumption) (fun wS hSw => ?_) ?_
      · (try dsimp only at hSw); go_simp
      simp only [Act.put, List.setIfInBounds_toArray, List.set_cons_zero, List.set_cons_succ]
      refine wpAnyZ_take (i := 9) (oi := ⟨some 26, Op.load 3 (Operand.tmp 25), 3, _, _, none⟩) (oz := ⟨none, Op.store 36 (Operand.tmp 29) (Operand.tmp 28), 0, _, _, none⟩) (v := .int .i64 y) rfl rfl (by kernel_rfl) (fun _ _ _ h => h) (by rfl) (by assumption) (fun wS hSw => ?_) ?_
      · (try dsimp only at hSw); go_simp
      simp only [Act.put, List.setIfInBounds_toArray, List.set_cons_zero, List.set_cons_succ]
      refine wpAnyZ_take (i := 10) (oi := ⟨some 27, Op.binOp BinOp.rem 3 (Operand.tmp 26) (Operand.const (Value.int IntKind.i64 30)) 3, 3, _, _, none⟩) (oz := ⟨none, Op.store 36 (Operand.tmp 29) (Operand.tmp 28), 0, _, _, none⟩) (v := .int .i64 (y.tmod 30)) rfl rfl (by kernel_rfl) (fun _ _ _ h => h) (by rfl) (by assumption) (fun wS hSw => ?_) ?_
      · (try dsimp only at hSw); go_simp
      simp only [Act.put, List.setIfInBounds_toArray, List.set_cons_zero, List.set_cons_succ]
      refine wpAnyZ_listed #[true, true, true, true, true, true, true, true, true, true, true, false, false, false] (by kernel_rfl) ?_
      refine wpAnyZ_one (i := 11) (o := ⟨some 28, Op.call { callee := Callee.value (Operand.func 22), args := #[Operand.tmp 22, Operand.tmp 27], argTypes := #[3, 3] }, 36, _, _, none⟩) (by kernel_rfl) rfl (fun K hK => ?_)
      go_simp
      go_at_call 22
      refine (Has.call X0 (at_any _ _ _)).mono ?_
      rintro e w8 ⟨rfl, X1⟩
      go_wp2_with fail
      try clear hHeld
      refine hK.out _ _ (⟨X1.fact (.head _) HQ1.out, X1.fact (.head _) HQ2.out⟩) (fun hHeld => ?_)
      clear hK K
      try simp only [List.setIfInBounds_toArray, List.set_cons_zero, List.set_cons_succ]
      refine wpAnyZ_listed #[true, true, true, true, true, true, true, true, true, true, true, true, false, false] (by kernel_rfl) ?_
      refine wpAnyZ_take (i := 12) (oi := ⟨some 29, Op.indexAddr 42 (Operand.tmp 1) (Operand.tmp 17), 0, _, _, none⟩) (oz := ⟨none, Op.store 36 (Operand.tmp 29) (Operand.tmp 28), 0, _, _, none⟩) (v := .pointer (some ⟨P, k * 2, none⟩)) rfl rfl (by kernel_rfl) (fun _ _ _ h => h) (by rfl) (by assumption) (fun wS hSw => ?_) ?_
      · (try dsimp only at hSw); go_simp
      simp only [Act.put, List.setIfInBounds_toArray, List.set_cons_zero, List.set_cons_succ]
      refine wpAnyZ_listed #[true, true, true, true, true, true, true, true, true, true, true, true, true, false] (by kernel_rfl) ?_
      refine wpAnyZ_step (o := ⟨none, Op.store 36 (Operand.tmp 29) (Operand.tmp 28), 0, _, _, none⟩) (by kernel_rfl) (by decide) rfl (fun K hK => ?_)
      have f0 := X1.free (.head _) HQ1.out
      have f1 := X1.free (.head _) HQ2.out
      have k0 := X1.fact (.head _) HQ1.out
      have k1 := X1.fact (.head _) HQ2.out
      go_simp
      have X2 := (X1.set (k * 2) (by omega) (.int .i64 (x.tmod 30))).set (k * 2 + 1) (by rw [List.length_set]; omega) (.int .i64 (y.tmod 30))
      rw [HE2.out] at X2
      generalize (w8.setCell ⟨P, k * 2, none⟩ (.int .i64 (x.tmod 30))).setCell ⟨P, k * 2 + 1, none⟩ (.int .i64 (y.tmod 30)) = w9 at *
      clear f0 f1 k0 k1 X1
      try clear hHeld
      refine hK.out _ _ ?_
      clear hK K
      try simp only [List.setIfInBounds_toArray, List.set_cons_zero, List.set_cons_succ]
      refine wpAnyH_listed #[true, true, true, true, true, true, true, true, true, true, true, true, true, true] (by kernel_rfl) ?_
      have hHeld := True.intro
      refine wpAnyH_done (by kernel_rfl) ?_ _
      refine Calm.normal ?_
      go_wp2_with fail
      go_roundw
      case rel => exact ⟨k + 1, by omega, by go_num, by rw [HF2.out]; exact X2⟩
      case measure => simp [RowKit.intOf]; omega
    · obtain rfl : k = 5 := by omega
      have e5 : flat (red5 L 5) = [.int .i64 (c0.tmod 30), .int .i64 (c1.tmod 30), .int .i64 (c2.tmod 30), .int .i64 (c3.tmod 30), .int .i64 (c4.tmod 30), .int .i64 (c5.tmod 30), .int .i64 (c6.tmod 30), .int .i64 (c7.tmod 30), .int .i64 (c8.tmod 30), .int .i64 (c9.tmod 30)] := by rw [← HL.out]; rfl
      rw [e5] at hI
      clear e5 HL hlen
      have hC := hI
      clear hI
      have t0 := tmod_bd c0 30 (by omega)
      have t1 := tmod_bd c1 30 (by omega)
      have t2 := tmod_bd c2 30 (by omega)
      have t3 := tmod_bd c3 30 (by omega)
      have t4 := tmod_bd c4 30 (by omega)
      have t5 := tmod_bd c5 30 (by omega)
      have t6 := tmod_bd c6 30 (by omega)
      have t7 := tmod_bd c7 30 (by omega)
      have t8 := tmod_bd c8 30 (by omega)
      have t9 := tmod_bd c9 30 (by omega)
      generalize c0.tmod 30 = a0 at *
      generalize c1.tmod 30 = a1 at *
      generalize c2.tmod 30 = b0 at *
      generalize c3.tmod 30 = b1 at *
      generalize c4.tmod 30 = c0 at *
      generalize c5.tmod 30 = c1 at *
      generalize c6.tmod 30 = d0 at *
      generalize c7.tmod 30 = d1 at *
      generalize c8.tmod 30 = e0 at *
      generalize c9.tmod 30 = e1 at *
      obtain ⟨i, t, nr, HF⟩ := cornF (rt30 t0 t1) (rt30 t2 t3) (rt30 t4 t5) (rt30 t6 t7) (rt30 t8 t9)
      have HFF := Lib.hid HF
      clear HF t0 t1 t2 t3 t4 t5 t6 t7 t8 t9 hlt hk
      go_upto_region 6 with fail
      have X0 := hC.drew
      clear hC
      have HS := Lib.hid (show ∀ w', Has w [(P, [.int .i64 a0, .int .i64 a1, .int .i64 b0, .int .i64 b1, .int .i64 c0, .int .i64 c1, .int .i64 d0, .int .i64 d1, .int .i64 e0, .int .i64 e1])] w' → (w'.cell? ⟨P, 0, none⟩ = some (.int .i64 a0) ∧ w'.cell? ⟨P, 1, none⟩ = some (.int .i64 a1) ∧ w'.cell? ⟨P, 2, none⟩ = some (.int .i64 b0) ∧ w'.cell? ⟨P, 3, none⟩ = some (.int .i64 b1) ∧ w'.cell? ⟨P, 4, none⟩ = some (.int .i64 c0) ∧ w'.cell? ⟨P, 5, none⟩ = some (.int .i64 c1) ∧ w'.cell? ⟨P, 6, none⟩ = some (.int .i64 d0) ∧ w'.cell? ⟨P, 7, none⟩ = some (.int .i64 d1) ∧ w'.cell? ⟨P, 8, none⟩ = some (.int .i64 e0) ∧ w'.cell? ⟨P, 9, none⟩ = some (.int .i64 e1)) ∧ Has w [(P, [.int .i64 a0, .int .i64 a1, .int .i64 b0, .int .i64 b1, .int .i64 c0, .int .i64 c1, .int .i64 d0, .int .i64 d1, .int .i64 e0, .int .i64 e1])] w' from fun w' h => by
        exact ⟨⟨h.fact (.head _) (i := 0) rfl, h.fact (.head _) (i := 1) rfl, h.fact (.head _) (i := 2) rfl, h.fact (.head _) (i := 3) rfl, h.fact (.head _) (i := 4) rfl, h.fact (.head _) (i := 5) rfl, h.fact (.head _) (i := 6) rfl, h.fact (.head _) (i := 7) rfl, h.fact (.head _) (i := 8) rfl, h.fact (.head _) (i := 9) rfl⟩, h⟩)
      refine wp_region_held_drew (S := (fun w' => (w'.cell? ⟨P, 0, none⟩ = some (.int .i64 a0) ∧ w'.cell? ⟨P, 1, none⟩ = some (.int .i64 a1) ∧ w'.cell? ⟨P, 2, none⟩ = some (.int .i64 b0) ∧ w'.cell? ⟨P, 3, none⟩ = some (.int .i64 b1) ∧ w'.cell? ⟨P, 4, none⟩ = some (.int .i64 c0) ∧ w'.cell? ⟨P, 5, none⟩ = some (.int .i64 c1) ∧ w'.cell? ⟨P, 6, none⟩ = some (.int .i64 d0) ∧ w'.cell? ⟨P, 7, none⟩ = some (.int .i64 d1) ∧ w'.cell? ⟨P, 8, none⟩ = some (.int .i64 e0) ∧ w'.cell? ⟨P, 9, none⟩ = some (.int .i64 e1)) ∧ Has w [(P, [.int .i64 a0, .int .i64 a1, .int .i64 b0, .int .i64 b1, .int .i64 c0, .int .i64 c1, .int .i64 d0, .int .i64 d1, .int .i64 e0, .int .i64 e1])] w')) (by kernel_rfl) (HS.out _ X0) (fun hHeld => ?_)
      refine wpAnyT_begin [0, 1, 2, 3, 4, 5, 6, 7, 8, 9] (by kernel_rfl) (by kernel_rfl) ?_
      refine wpAnyT_take (oi := ⟨some 30, Op.indexAddr 42 (Operand.tmp 1) (Operand.const (Value.int IntKind.i64 0)), 0, _, _, none⟩) (v := .pointer (some ⟨P, 0, none⟩)) rfl (fun _ _ _ h => h) (by rfl) (by assumption) (fun wS hSw => ?_) ?_
      · (try dsimp only at hSw); go_simp
      simp only [Act.put, List.setIfInBounds_toArray, List.set_cons_zero, List.set_cons_succ]
      refine wpAnyT_take (oi := ⟨some 31, Op.load 36 (Operand.tmp 30), 36, _, _, none⟩) (v := .agg #[.int .i64 a0, .int .i64 a1]) rfl (fun _ _ _ h => h) (by rfl) (by assumption) (fun wS hSw => ?_) ?_
      · (try dsimp only at hSw); go_simp
      simp only [Act.put, List.setIfInBounds_toArray, List.set_cons_zero, List.set_cons_succ]
      refine wpAnyT_take (oi := ⟨some 32, Op.indexAddr 42 (Operand.tmp 1) (Operand.const (Value.int IntKind.i64 1)), 0, _, _, none⟩) (v := .pointer (some ⟨P, 2, none⟩)) rfl (fun _ _ _ h => h) (by rfl) (by assumption) (fun wS hSw => ?_) ?_
      · (try dsimp only at hSw); go_simp
      simp only [Act.put, List.setIfInBounds_toArray, List.set_cons_zero, List.set_cons_succ]
      refine wpAnyT_take (oi := ⟨some 33, Op.load 36 (Operand.tmp 32), 36, _, _, none⟩) (v := .agg #[.int .i64 b0, .int .i64 b1]) rfl (fun _ _ _ h => h) (by rfl) (by assumption) (fun wS hSw => ?_) ?_
      · (try dsimp only at hSw); go_simp
      simp only [Act.put, List.setIfInBounds_toArray, List.set_cons_zero, List.set_cons_succ]
      refine wpAnyT_take (oi := ⟨some 34, Op.indexAddr 42 (Operand.tmp 1) (Operand.const (Value.int IntKind.i64 2)), 0, _, _, none⟩) (v := .pointer (some ⟨P, 4, none⟩)) rfl (fun _ _ _ h => h) (by rfl) (by assumption) (fun wS hSw => ?_) ?_
      · (try dsimp only at hSw); go_simp
      simp only [Act.put, List.setIfInBounds_toArray, List.set_cons_zero, List.set_cons_succ]
      refine wpAnyT_take (oi := ⟨some 35, Op.load 36 (Operand.tmp 34), 36, _, _, none⟩) (v := .agg #[.int .i64 c0, .int .i64 c1]) rfl (fun _ _ _ h => h) (by rfl) (by assumption) (fun wS hSw => ?_) ?_
      · (try dsimp only at hSw); go_simp
      simp only [Act.put, List.setIfInBounds_toArray, List.set_cons_zero, List.set_cons_succ]
      refine wpAnyT_take (oi := ⟨some 36, Op.indexAddr 42 (Operand.tmp 1) (Operand.const (Value.int IntKind.i64 3)), 0, _, _, none⟩) (v := .pointer (some ⟨P, 6, none⟩)) rfl (fun _ _ _ h => h) (by rfl) (by assumption) (fun wS hSw => ?_) ?_
      · (try dsimp only at hSw); go_simp
      simp only [Act.put, List.setIfInBounds_toArray, List.set_cons_zero, List.set_cons_succ]
      refine wpAnyT_take (oi := ⟨some 37, Op.load 36 (Operand.tmp 36), 36, _, _, none⟩) (v := .agg #[.int .i64 d0, .int .i64 d1]) rfl (fun _ _ _ h => h) (by rfl) (by assumption) (fun wS hSw => ?_) ?_
      · (try dsimp only at hSw); go_simp
      simp only [Act.put, List.setIfInBounds_toArray, List.set_cons_zero, List.set_cons_succ]
      refine wpAnyT_take (oi := ⟨some 38, Op.indexAddr 42 (Operand.tmp 1) (Operand.const (Value.int IntKind.i64 4)), 0, _, _, none⟩) (v := .pointer (some ⟨P, 8, none⟩)) rfl (fun _ _ _ h => h) (by rfl) (by assumption) (fun wS hSw => ?_) ?_
      · (try dsimp only at hSw); go_simp
      simp only [Act.put, List.setIfInBounds_toArray, List.set_cons_zero, List.set_cons_succ]
      refine wpAnyT_take (oi := ⟨some 39, Op.load 36 (Operand.tmp 38), 36, _, _, none⟩) (v := .agg #[.int .i64 e0, .int .i64 e1]) rfl (fun _ _ _ h => h) (by rfl) (by assumption) (fun wS hSw => ?_) ?_
      · (try dsimp only at hSw); go_simp
      simp only [Act.put, List.setIfInBounds_toArray, List.set_cons_zero, List.set_cons_succ]
      refine wpAnyT_end ?_
      refine wpAnyH_listed #[true, true, true, true, true, true, true, true, true, true, false, false, false, false, false, false, false, false, false, false] (by kernel_rfl) ?_
      refine any_ind (X := St5) (n := fun sx => (if sx.a.isSome then 0 else 1) + (if sx.b.isSome then 0 else 1) + (if sx.c.isSome then 0 else 1) + (if sx.d.isSome then 0 else 1) + (if sx.e.isSome then 0 else 1)) (l := fun sx => #[true, true, true, true, true, true, true, true, true, true, sx.a.isSome, sx.b.isSome, sx.c.isSome, sx.d.isSome, sx.e.isSome, false, false, false, false, false]) (u := fun sx t => (putp 5 sx.a (putp 6 sx.b (putp 7 sx.c (putp 8 sx.d (putp 9 sx.e t)))))) (I := fun sx w' => Has w (bl [.int .i64 0, .int .i64 0] sx.a (bl [.int .i64 0, .int .i64 0] sx.b (bl [.int .i64 0, .int .i64 0] sx.c (bl [.int .i64 0, .int .i64 0] sx.d (bl [.int .i64 0, .int .i64 0] sx.e [(P, [.int .i64 a0, .int .i64 a1, .int .i64 b0, .int .i64 b1, .int .i64 c0, .int .i64 c1, .int .i64 d0, .int .i64 d1, .int .i64 e0, .int .i64 e1])]))))) w') (m := 5) ⟨none, none, none, none, none⟩ (by kernel_rfl) (by kernel_rfl) (by kernel_rfl) X0 ?_ ?_
      · rintro k ih ⟨pa, pb, pc, pd, pe⟩ w2 hk hH
        clear hHeld
        cases pa with
        | none =>
          cases pb with
          | none =>
            cases pc with
            | none =>
              cases pd with
              | none =>
                cases pe with
                | none =>
                  simp only [Option.isSome, Bool.false_eq_true, if_false, if_true] at hk
                  simp only [putp, Act.put, List.setIfInBounds_toArray, List.set_cons_zero, List.set_cons_succ]
                  refine wpAnyH_listed #[true, true, true, true, true, true, true, true, true, true, false, false, false, false, false, false, false, false, false, false] (by kernel_rfl) ?_
                  refine wpAnyH_ready (rs := [10, 11, 12, 13, 14]) (by kernel_rfl) (by simp) ?_
                  refine AllReadyH.cons (o := ⟨some 5, Op.alloc 36, 0, _, _, none⟩) rfl (fun K hK => ?_) (?_)
                  · go_simp
                    have hC := hH.push [.int .i64 0, .int .i64 0] 36
                    change Has w _ (w2.alloc (.cells #[.int .i64 0, .int .i64 0] 36)) at hC
                    generalize w2.alloc (.cells #[.int .i64 0, .int .i64 0] 36) = W at *
                    generalize w2.heap.size = pA at *
                    have hC' : Has w ([(pA, [.int .i64 0, .int .i64 0])] ++ [(P, [.int .i64 a0, .int .i64 a1, .int .i64 b0, .int .i64 b1, .int .i64 c0, .int .i64 c1, .int .i64 d0, .int .i64 d1, .int .i64 e0, .int .i64 e1])]) W := Has.ins (l1 := []) (l2 := [] ++ [(P, [.int .i64 a0, .int .i64 a1, .int .i64 b0, .int .i64 b1, .int .i64 c0, .int .i64 c1, .int .i64 d0, .int .i64 d1, .int .i64 e0, .int .i64 e1])]) hC
                    refine hK.out _ _ (HS.out _ (hC'.tail)) (fun _ => ?_)
                    exact wpAnyH_cast rfl (by kernel_rfl) (by kernel_rfl) (ih ⟨some pA, none, none, none, none⟩ _ (by simp only [Option.isSome, Bool.false_eq_true, if_false, if_true]; omega) hC')
                  refine AllReadyH.cons (o := ⟨some 6, Op.alloc 36, 0, _, _, none⟩) rfl (fun K hK => ?_) (?_)
                  · go_simp
                    have hC := hH.push [.int .i64 0, .int .i64 0] 36
                    change Has w _ (w2.alloc (.cells #[.int .i64 0, .int .i64 0] 36)) at hC
                    generalize w2.alloc (.cells #[.int .i64 0, .int .i64 0] 36) = W at *
                    generalize w2.heap.size = pB at *
                    have hC' : Has w ([(pB, [.int .i64 0, .int .i64 0])] ++ [(P, [.int .i64 a0, .int .i64 a1, .int .i64 b0, .int .i64 b1, .int .i64 c0, .int .i64 c1, .int .i64 d0, .int .i64 d1, .int .i64 e0, .int .i64 e1])]) W := Has.ins (l1 := []) (l2 := [] ++ [(P, [.int .i64 a0, .int .i64 a1, .int .i64 b0, .int .i64 b1, .int .i64 c0, .int .i64 c1, .int .i64 d0, .int .i64 d1, .int .i64 e0, .int .i64 e1])]) hC
                    refine hK.out _ _ (HS.out _ (hC'.tail)) (fun _ => ?_)
                    exact wpAnyH_cast rfl (by kernel_rfl) (by kernel_rfl) (ih ⟨none, some pB, none, none, none⟩ _ (by simp only [Option.isSome, Bool.false_eq_true, if_false, if_true]; omega) hC')
                  refine AllReadyH.cons (o := ⟨some 7, Op.alloc 36, 0, _, _, none⟩) rfl (fun K hK => ?_) (?_)
                  · go_simp
                    have hC := hH.push [.int .i64 0, .int .i64 0] 36
                    change Has w _ (w2.alloc (.cells #[.int .i64 0, .int .i64 0] 36)) at hC
                    generalize w2.alloc (.cells #[.int .i64 0, .int .i64 0] 36) = W at *
                    generalize w2.heap.size = pC at *
                    have hC' : Has w ([(pC, [.int .i64 0, .int .i64 0])] ++ [(P, [.int .i64 a0, .int .i64 a1, .int .i64 b0, .int .i64 b1, .int .i64 c0, .int .i64 c1, .int .i64 d0, .int .i64 d1, .int .i64 e0, .int .i64 e1])]) W := Has.ins (l1 := []) (l2 := [] ++ [(P, [.int .i64 a0, .int .i64 a1, .int .i64 b0, .int .i64 b1, .int .i64 c0, .int .i64 c1, .int .i64 d0, .int .i64 d1, .int .i64 e0, .int .i64 e1])]) hC
                    refine hK.out _ _ (HS.out _ (hC'.tail)) (fun _ => ?_)
                    exact wpAnyH_cast rfl (by kernel_rfl) (by kernel_rfl) (ih ⟨none, none, some pC, none, none⟩ _ (by simp only [Option.isSome, Bool.false_eq_true, if_false, if_true]; omega) hC')
                  refine AllReadyH.cons (o := ⟨some 8, Op.alloc 36, 0, _, _, none⟩) rfl (fun K hK => ?_) (?_)
                  · go_simp
                    have hC := hH.push [.int .i64 0, .int .i64 0] 36
                    change Has w _ (w2.alloc (.cells #[.int .i64 0, .int .i64 0] 36)) at hC
                    generalize w2.alloc (.cells #[.int .i64 0, .int .i64 0] 36) = W at *
                    generalize w2.heap.size = pD at *
                    have hC' : Has w ([(pD, [.int .i64 0, .int .i64 0])] ++ [(P, [.int .i64 a0, .int .i64 a1, .int .i64 b0, .int .i64 b1, .int .i64 c0, .int .i64 c1, .int .i64 d0, .int .i64 d1, .int .i64 e0, .int .i64 e1])]) W := Has.ins (l1 := []) (l2 := [] ++ [(P, [.int .i64 a0, .int .i64 a1, .int .i64 b0, .int .i64 b1, .int .i64 c0, .int .i64 c1, .int .i64 d0, .int .i64 d1, .int .i64 e0, .int .i64 e1])]) hC
                    refine hK.out _ _ (HS.out _ (hC'.tail)) (fun _ => ?_)
                    exact wpAnyH_cast rfl (by kernel_rfl) (by kernel_rfl) (ih ⟨none, none, none, some pD, none⟩ _ (by simp only [Option.isSome, Bool.false_eq_true, if_false, if_true]; omega) hC')
                  refine AllReadyH.cons (o := ⟨some 9, Op.alloc 36, 0, _, _, none⟩) rfl (fun K hK => ?_) (AllReadyH.nil)
                  · go_simp
                    have hC := hH.push [.int .i64 0, .int .i64 0] 36
                    change Has w _ (w2.alloc (.cells #[.int .i64 0, .int .i64 0] 36)) at hC
                    generalize w2.alloc (.cells #[.int .i64 0, .int .i64 0] 36) = W at *
                    generalize w2.heap.size = pE at *
                    have hC' : Has w ([(pE, [.int .i64 0, .int .i64 0])] ++ [(P, [.int .i64 a0, .int .i64 a1, .int .i64 b0, .int .i64 b1, .int .i64 c0, .int .i64 c1, .int .i64 d0, .int .i64 d1, .int .i64 e0, .int .i64 e1])]) W := Has.ins (l1 := []) (l2 := [] ++ [(P, [.int .i64 a0, .int .i64 a1, .int .i64 b0, .int .i64 b1, .int .i64 c0, .int .i64 c1, .int .i64 d0, .int .i64 d1, .int .i64 e0, .int .i64 e1])]) hC
                    refine hK.out _ _ (HS.out _ (hC'.tail)) (fun _ => ?_)
                    exact wpAnyH_cast rfl (by kernel_rfl) (by kernel_rfl) (ih ⟨none, none, none, none, some pE⟩ _ (by simp only [Option.isSome, Bool.false_eq_true, if_false, if_true]; omega) hC')
                | some pE =>
                  simp only [Option.isSome, Bool.false_eq_true, if_false, if_true] at hk
                  simp only [putp, Act.put, List.setIfInBounds_toArray, List.set_cons_zero, List.set_cons_succ]
                  refine wpAnyH_listed #[true, true, true, true, true, true, true, true, true, true, false, false, false, false, true, false, false, false, false, false] (by kernel_rfl) ?_
                  refine wpAnyH_ready (rs := [10, 11, 12, 13]) (by kernel_rfl) (by simp) ?_
                  refine AllReadyH.cons (o := ⟨some 5, Op.alloc 36, 0, _, _, none⟩) rfl (fun K hK => ?_) (?_)
                  · go_simp
                    have hC := hH.push [.int .i64 0, .int .i64 0] 36
                    change Has w _ (w2.alloc (.cells #[.int .i64 0, .int .i64 0] 36)) at hC
                    generalize w2.alloc (.cells #[.int .i64 0, .int .i64 0] 36) = W at *
                    generalize w2.heap.size = pA at *
                    have hC' : Has w ([(pA, [.int .i64 0, .int .i64 0]), (pE, [.int .i64 0, .int .i64 0])] ++ [(P, [.int .i64 a0, .int .i64 a1, .int .i64 b0, .int .i64 b1, .int .i64 c0, .int .i64 c1, .int .i64 d0, .int .i64 d1, .int .i64 e0, .int .i64 e1])]) W := Has.ins (l1 := []) (l2 := [(pE, [.int .i64 0, .int .i64 0])] ++ [(P, [.int .i64 a0, .int .i64 a1, .int .i64 b0, .int .i64 b1, .int .i64 c0, .int .i64 c1, .int .i64 d0, .int .i64 d1, .int .i64 e0, .int .i64 e1])]) hC
                    refine hK.out _ _ (HS.out _ (hC'.tail.tail)) (fun _ => ?_)
                    exact wpAnyH_cast rfl (by kernel_rfl) (by kernel_rfl) (ih ⟨some pA, none, none, none, some pE⟩ _ (by simp only [Option.isSome, Bool.false_eq_true, if_false, if_true]; omega) hC')
                  refine AllReadyH.cons (o := ⟨some 6, Op.alloc 36, 0, _, _, none⟩) rfl (fun K hK => ?_) (?_)
                  · go_simp
                    have hC := hH.push [.int .i64 0, .int .i64 0] 36
                    change Has w _ (w2.alloc (.cells #[.int .i64 0, .int .i64 0] 36)) at hC
                    generalize w2.alloc (.cells #[.int .i64 0, .int .i64 0] 36) = W at *
                    generalize w2.heap.size = pB at *
                    have hC' : Has w ([(pB, [.int .i64 0, .int .i64 0]), (pE, [.int .i64 0, .int .i64 0])] ++ [(P, [.int .i64 a0, .int .i64 a1, .int .i64 b0, .int .i64 b1, .int .i64 c0, .int .i64 c1, .int .i64 d0, .int .i64 d1, .int .i64 e0, .int .i64 e1])]) W := Has.ins (l1 := []) (l2 := [(pE, [.int .i64 0, .int .i64 0])] ++ [(P, [.int .i64 a0, .int .i64 a1, .int .i64 b0, .int .i64 b1, .int .i64 c0, .int .i64 c1, .int .i64 d0, .int .i64 d1, .int .i64 e0, .int .i64 e1])]) hC
                    refine hK.out _ _ (HS.out _ (hC'.tail.tail)) (fun _ => ?_)
                    exact wpAnyH_cast rfl (by kernel_rfl) (by kernel_rfl) (ih ⟨none, some pB, none, none, some pE⟩ _ (by simp only [Option.isSome, Bool.false_eq_true, if_false, if_true]; omega) hC')
                  refine AllReadyH.cons (o := ⟨some 7, Op.alloc 36, 0, _, _, none⟩) rfl (fun K hK => ?_) (?_)
                  · go_simp
                    have hC := hH.push [.int .i64 0, .int .i64 0] 36
                    change Has w _ (w2.alloc (.cells #[.int .i64 0, .int .i64 0] 36)) at hC
                    generalize w2.alloc (.cells #[.int .i64 0, .int .i64 0] 36) = W at *
                    generalize w2.heap.size = pC at *
                    have hC' : Has w ([(pC, [.int .i64 0, .int .i64 0]), (pE, [.int .i64 0, .int .i64 0])] ++ [(P, [.int .i64 a0, .int .i64 a1, .int .i64 b0, .int .i64 b1, .int .i64 c0, .int .i64 c1, .int .i64 d0, .int .i64 d1, .int .i64 e0, .int .i64 e1])]) W := Has.ins (l1 := []) (l2 := [(pE, [.int .i64 0, .int .i64 0])] ++ [(P, [.int .i64 a0, .int .i64 a1, .int .i64 b0, .int .i64 b1, .int .i64 c0, .int .i64 c1, .int .i64 d0, .int .i64 d1, .int .i64 e0, .int .i64 e1])]) hC
                    refine hK.out _ _ (HS.out _ (hC'.tail.tail)) (fun _ => ?_)
                    exact wpAnyH_cast rfl (by kernel_rfl) (by kernel_rfl) (ih ⟨none, none, some pC, none, some pE⟩ _ (by simp only [Option.isSome, Bool.false_eq_true, if_false, if_true]; omega) hC')
                  refine AllReadyH.cons (o := ⟨some 8, Op.alloc 36, 0, _, _, none⟩) rfl (fun K hK => ?_) (AllReadyH.nil)
                  · go_simp
                    have hC := hH.push [.int .i64 0, .int .i64 0] 36
                    change Has w _ (w2.alloc (.cells #[.int .i64 0, .int .i64 0] 36)) at hC
                    generalize w2.alloc (.cells #[.int .i64 0, .int .i64 0] 36) = W at *
                    generalize w2.heap.size = pD at *
                    have hC' : Has w ([(pD, [.int .i64 0, .int .i64 0]), (pE, [.int .i64 0, .int .i64 0])] ++ [(P, [.int .i64 a0, .int .i64 a1, .int .i64 b0, .int .i64 b1, .int .i64 c0, .int .i64 c1, .int .i64 d0, .int .i64 d1, .int .i64 e0, .int .i64 e1])]) W := Has.ins (l1 := []) (l2 := [(pE, [.int .i64 0, .int .i64 0])] ++ [(P, [.int .i64 a0, .int .i64 a1, .int .i64 b0, .int .i64 b1, .int .i64 c0, .int .i64 c1, .int .i64 d0, .int .i64 d1, .int .i64 e0, .int .i64 e1])]) hC
                    refine hK.out _ _ (HS.out _ (hC'.tail.tail)) (fun _ => ?_)
                    exact wpAnyH_cast rfl (by kernel_rfl) (by kernel_rfl) (ih ⟨none, none, none, some pD, some pE⟩ _ (by simp only [Option.isSome, Bool.false_eq_true, if_false, if_true]; omega) hC')
              | some pD =>
                cases pe with
                | none =>
                  simp only [Option.isSome, Bool.false_eq_true, if_false, if_true] at hk
                  simp only [putp, Act.put, List.setIfInBounds_toArray, List.set_cons_zero, List.set_cons_succ]
                  refine wpAnyH_listed #[true, true, true, true, true, true, true, true, true, true, false, false, false, true, false, false, false, false, false, false] (by kernel_rfl) ?_
                  refine wpAnyH_ready (rs := [10, 11, 12, 14]) (by kernel_rfl) (by simp) ?_
                  refine AllReadyH.cons (o := ⟨some 5, Op.alloc 36, 0, _, _, none⟩) rfl (fun K hK => ?_) (?_)
                  · go_simp
                    have hC := hH.push [.int .i64 0, .int .i64 0] 36
                    change Has w _ (w2.alloc (.cells #[.int .i64 0, .int .i64 0] 36)) at hC
                    generalize w2.alloc (.cells #[.int .i64 0, .int .i64 0] 36) = W at *
                    generalize w2.heap.size = pA at *
                    have hC' : Has w ([(pA, [.int .i64 0, .int .i64 0]), (pD, [.int .i64 0, .int .i64 0])] ++ [(P, [.int .i64 a0, .int .i64 a1, .int .i64 b0, .int .i64 b1, .int .i64 c0, .int .i64 c1, .int .i64 d0, .int .i64 d1, .int .i64 e0, .int .i64 e1])]) W := Has.ins (l1 := []) (l2 := [(pD, [.int .i64 0, .int .i64 0])] ++ [(P, [.int .i64 a0, .int .i64 a1, .int .i64 b0, .int .i64 b1, .int .i64 c0, .int .i64 c1, .int .i64 d0, .int .i64 d1, .int .i64 e0, .int .i64 e1])]) hC
                    refine hK.out _ _ (HS.out _ (hC'.tail.tail)) (fun _ => ?_)
                    exact wpAnyH_cast rfl (by kernel_rfl) (by kernel_rfl) (ih ⟨some pA, none, none, some pD, none⟩ _ (by simp only [Option.isSome, Bool.false_eq_true, if_false, if_true]; omega) hC')
                  refine AllReadyH.cons (o := ⟨some 6, Op.alloc 36, 0, _, _, none⟩) rfl (fun K hK => ?_) (?_)
                  · go_simp
                    have hC := hH.push [.int .i64 0, .int .i64 0] 36
                    change Has w _ (w2.alloc (.cells #[.int .i64 0, .int .i64 0] 36)) at hC
                    generalize w2.alloc (.cells #[.int .i64 0, .int .i64 0] 36) = W at *
                    generalize w2.heap.size = pB at *
                    have hC' : Has w ([(pB, [.int .i64 0, .int .i64 0]), (pD, [.int .i64 0, .int .i64 0])] ++ [(P, [.int .i64 a0, .int .i64 a1, .int .i64 b0, .int .i64 b1, .int .i64 c0, .int .i64 c1, .int .i64 d0, .int .i64 d1, .int .i64 e0, .int .i64 e1])]) W := Has.ins (l1 := []) (l2 := [(pD, [.int .i64 0, .int .i64 0])] ++ [(P, [.int .i64 a0, .int .i64 a1, .int .i64 b0, .int .i64 b1, .int .i64 c0, .int .i64 c1, .int .i64 d0, .int .i64 d1, .int .i64 e0, .int .i64 e1])]) hC
                    refine hK.out _ _ (HS.out _ (hC'.tail.tail)) (fun _ => ?_)
                    exact wpAnyH_cast rfl (by kernel_rfl) (by kernel_rfl) (ih ⟨none, some pB, none, some pD, none⟩ _ (by simp only [Option.isSome, Bool.false_eq_true, if_false, if_true]; omega) hC')
                  refine AllReadyH.cons (o := ⟨some 7, Op.alloc 36, 0, _, _, none⟩) rfl (fun K hK => ?_) (?_)
                  · go_simp
                    have hC := hH.push [.int .i64 0, .int .i64 0] 36
                    change Has w _ (w2.alloc (.cells #[.int .i64 0, .int .i64 0] 36)) at hC
                    generalize w2.alloc (.cells #[.int .i64 0, .int .i64 0] 36) = W at *
                    generalize w2.heap.size = pC at *
                    have hC' : Has w ([(pC, [.int .i64 0, .int .i64 0]), (pD, [.int .i64 0, .int .i64 0])] ++ [(P, [.int .i64 a0, .int .i64 a1, .int .i64 b0, .int .i64 b1, .int .i64 c0, .int .i64 c1, .int .i64 d0, .int .i64 d1, .int .i64 e0, .int .i64 e1])]) W := Has.ins (l1 := []) (l2 := [(pD, [.int .i64 0, .int .i64 0])] ++ [(P, [.int .i64 a0, .int .i64 a1, .int .i64 b0, .int .i64 b1, .int .i64 c0, .int .i64 c1, .int .i64 d0, .int .i64 d1, .int .i64 e0, .int .i64 e1])]) hC
                    refine hK.out _ _ (HS.out _ (hC'.tail.tail)) (fun _ => ?_)
                    exact wpAnyH_cast rfl (by kernel_rfl) (by kernel_rfl) (ih ⟨none, none, some pC, some pD, none⟩ _ (by simp only [Option.isSome, Bool.false_eq_true, if_false, if_true]; omega) hC')
                  refine AllReadyH.cons (o := ⟨some 9, Op.alloc 36, 0, _, _, none⟩) rfl (fun K hK => ?_) (AllReadyH.nil)
                  · go_simp
                    have hC := hH.push [.int .i64 0, .int .i64 0] 36
                    change Has w _ (w2.alloc (.cells #[.int .i64 0, .int .i64 0] 36)) at hC
                    generalize w2.alloc (.cells #[.int .i64 0, .int .i64 0] 36) = W at *
                    generalize w2.heap.size = pE at *
                    have hC' : Has w ([(pD, [.int .i64 0, .int .i64 0]), (pE, [.int .i64 0, .int .i64 0])] ++ [(P, [.int .i64 a0, .int .i64 a1, .int .i64 b0, .int .i64 b1, .int .i64 c0, .int .i64 c1, .int .i64 d0, .int .i64 d1, .int .i64 e0, .int .i64 e1])]) W := Has.ins (l1 := [(pD, [.int .i64 0, .int .i64 0])]) (l2 := [] ++ [(P, [.int .i64 a0, .int .i64 a1, .int .i64 b0, .int .i64 b1, .int .i64 c0, .int .i64 c1, .int .i64 d0, .int .i64 d1, .int .i64 e0, .int .i64 e1])]) hC
                    refine hK.out _ _ (HS.out _ (hC'.tail.tail)) (fun _ => ?_)
                    exact wpAnyH_cast rfl (by kernel_rfl) (by kernel_rfl) (ih ⟨none, none, none, some pD, some pE⟩ _ (by simp only [Option.isSome, Bool.false_eq_true, if_false, if_true]; omega) hC')
                | some pE =>
                  simp only [Option.isSome, Bool.false_eq_true, if_false, if_true] at hk
                  simp only [putp, Act.put, List.setIfInBounds_toArray, List.set_cons_zero, List.set_cons_succ]
                  refine wpAnyH_listed #[true, true, true, true, true, true, true, true, true, true, false, false, false, true, true, false, false, false, false, false] (by kernel_rfl) ?_
                  refine wpAnyH_ready (rs := [10, 11, 12]) (by kernel_rfl) (by simp) ?_
                  refine AllReadyH.cons (o := ⟨some 5, Op.alloc 36, 0, _, _, none⟩) rfl (fun K hK => ?_) (?_)
                  · go_simp
                    have hC := hH.push [.int .i64 0, .int .i64 0] 36
                    change Has w _ (w2.alloc (.cells #[.int .i64 0, .int .i64 0] 36)) at hC
                    generalize w2.alloc (.cells #[.int .i64 0, .int .i64 0] 36) = W at *
                    generalize w2.heap.size = pA at *
                    have hC' : Has w ([(pA, [.int .i64 0, .int .i64 0]), (pD, [.int .i64 0, .int .i64 0]), (pE, [.int .i64 0, .int .i64 0])] ++ [(P, [.int .i64 a0, .int .i64 a1, .int .i64 b0, .int .i64 b1, .int .i64 c0, .int .i64 c1, .int .i64 d0, .int .i64 d1, .int .i64 e0, .int .i64 e1])]) W := Has.ins (l1 := []) (l2 := [(pD, [.int .i64 0, .int .i64 0]), (pE, [.int .i64 0, .int .i64 0])] ++ [(P, [.int .i64 a0, .int .i64 a1, .int .i64 b0, .int .i64 b1, .int .i64 c0, .int .i64 c1, .int .i64 d0, .int .i64 d1, .int .i64 e0, .int .i64 e1])]) hC
                    refine hK.out _ _ (HS.out _ (hC'.tail.tail.tail)) (fun _ => ?_)
                    exact wpAnyH_cast rfl (by kernel_rfl) (by kernel_rfl) (ih ⟨some pA, none, none, some pD, some pE⟩ _ (by simp only [Option.isSome, Bool.false_eq_true, if_false, if_true]; omega) hC')
                  refine AllReadyH.cons (o := ⟨some 6, Op.alloc 36, 0, _, _, none⟩) rfl (fun K hK => ?_) (?_)
                  · go_simp
                    have hC := hH.push [.int .i64 0, .int .i64 0] 36
                    change Has w _ (w2.alloc (.cells #[.int .i64 0, .int .i64 0] 36)) at hC
                    generalize w2.alloc (.cells #[.int .i64 0, .int .i64 0] 36) = W at *
                    generalize w2.heap.size = pB at *
                    have hC' : Has w ([(pB, [.int .i64 0, .int .i64 0]), (pD, [.int .i64 0, .int .i64 0]), (pE, [.int .i64 0, .int .i64 0])] ++ [(P, [.int .i64 a0, .int .i64 a1, .int .i64 b0, .int .i64 b1, .int .i64 c0, .int .i64 c1, .int .i64 d0, .int .i64 d1, .int .i64 e0, .int .i64 e1])]) W := Has.ins (l1 := []) (l2 := [(pD, [.int .i64 0, .int .i64 0]), (pE, [.int .i64 0, .int .i64 0])] ++ [(P, [.int .i64 a0, .int .i64 a1, .int .i64 b0, .int .i64 b1, .int .i64 c0, .int .i64 c1, .int .i64 d0, .int .i64 d1, .int .i64 e0, .int .i64 e1])]) hC
                    refine hK.out _ _ (HS.out _ (hC'.tail.tail.tail)) (fun _ => ?_)
                    exact wpAnyH_cast rfl (by kernel_rfl) (by kernel_rfl) (ih ⟨none, some pB, none, some pD, some pE⟩ _ (by simp only [Option.isSome, Bool.false_eq_true, if_false, if_true]; omega) hC')
                  refine AllReadyH.cons (o := ⟨some 7, Op.alloc 36, 0, _, _, none⟩) rfl (fun K hK => ?_) (AllReadyH.nil)
                  · go_simp
                    have hC := hH.push [.int .i64 0, .int .i64 0] 36
                    change Has w _ (w2.alloc (.cells #[.int .i64 0, .int .i64 0] 36)) at hC
                    generalize w2.alloc (.cells #[.int .i64 0, .int .i64 0] 36) = W at *
                    generalize w2.heap.size = pC at *
                    have hC' : Has w ([(pC, [.int .i64 0, .int .i64 0]), (pD, [.int .i64 0, .int .i64 0]), (pE, [.int .i64 0, .int .i64 0])] ++ [(P, [.int .i64 a0, .int .i64 a1, .int .i64 b0, .int .i64 b1, .int .i64 c0, .int .i64 c1, .int .i64 d0, .int .i64 d1, .int .i64 e0, .int .i64 e1])]) W := Has.ins (l1 := []) (l2 := [(pD, [.int .i64 0, .int .i64 0]), (pE, [.int .i64 0, .int .i64 0])] ++ [(P, [.int .i64 a0, .int .i64 a1, .int .i64 b0, .int .i64 b1, .int .i64 c0, .int .i64 c1, .int .i64 d0, .int .i64 d1, .int .i64 e0, .int .i64 e1])]) hC
                    refine hK.out _ _ (HS.out _ (hC'.tail.tail.tail)) (fun _ => ?_)
                    exact wpAnyH_cast rfl (by kernel_rfl) (by kernel_rfl) (ih ⟨none, none, some pC, some pD, some pE⟩ _ (by simp only [Option.isSome, Bool.false_eq_true, if_false, if_true]; omega) hC')
            | some pC =>
              cases pd with
              | none =>
                cases pe with
                | none =>
                  simp only [Option.isSome, Bool.false_eq_true, if_false, if_true] at hk
                  simp only [putp, Act.put, List.setIfInBounds_toArray, List.set_cons_zero, List.set_cons_succ]
                  refine wpAnyH_listed #[true, true, true, true, true, true, true, true, true, true, false, false, true, false, false, false, false, false, false, false] (by kernel_rfl) ?_
                  refine wpAnyH_ready (rs := [10, 11, 13, 14]) (by kernel_rfl) (by simp) ?_
                  refine AllReadyH.cons (o := ⟨some 5, Op.alloc 36, 0, _, _, none⟩) rfl (fun K hK => ?_) (?_)
                  · go_simp
                    have hC := hH.push [.int .i64 0, .int .i64 0] 36
                    change Has w _ (w2.alloc (.cells #[.int .i64 0, .int .i64 0] 36)) at hC
                    generalize w2.alloc (.cells #[.int .i64 0, .int .i64 0] 36) = W at *
                    generalize w2.heap.size = pA at *
                    have hC' : Has w ([(pA, [.int .i64 0, .int .i64 0]), (pC, [.int .i64 0, .int .i64 0])] ++ [(P, [.int .i64 a0, .int .i64 a1, .int .i64 b0, .int .i64 b1, .int .i64 c0, .int .i64 c1, .int .i64 d0, .int .i64 d1, .int .i64 e0, .int .i64 e1])]) W := Has.ins (l1 := []) (l2 := [(pC, [.int .i64 0, .int .i64 0])] ++ [(P, [.int .i64 a0, .int .i64 a1, .int .i64 b0, .int .i64 b1, .int .i64 c0, .int .i64 c1, .int .i64 d0, .int .i64 d1, .int .i64 e0, .int .i64 e1])]) hC
                    refine hK.out _ _ (HS.out _ (hC'.tail.tail)) (fun _ => ?_)
                    exact wpAnyH_cast rfl (by kernel_rfl) (by kernel_rfl) (ih ⟨some pA, none, some pC, none, none⟩ _ (by simp only [Option.isSome, Bool.false_eq_true, if_false, if_true]; omega) hC')
                  refine AllReadyH.cons (o := ⟨some 6, Op.alloc 36, 0, _, _, none⟩) rfl (fun K hK => ?_) (?_)
                  · go_simp
                    have hC := hH.push [.int .i64 0, .int .i64 0] 36
                    change Has w _ (w2.alloc (.cells #[.int .i64 0, .int .i64 0] 36)) at hC
                    generalize w2.alloc (.cells #[.int .i64 0, .int .i64 0] 36) = W at *
                    generalize w2.heap.size = pB at *
                    have hC' : Has w ([(pB, [.int .i64 0, .int .i64 0]), (pC, [.int .i64 0, .int .i64 0])] ++ [(P, [.int .i64 a0, .int .i64 a1, .int .i64 b0, .int .i64 b1, .int .i64 c0, .int .i64 c1, .int .i64 d0, .int .i64 d1, .int .i64 e0, .int .i64 e1])]) W := Has.ins (l1 := []) (l2 := [(pC, [.int .i64 0, .int .i64 0])] ++ [(P, [.int .i64 a0, .int .i64 a1, .int .i64 b0, .int .i64 b1, .int .i64 c0, .int .i64 c1, .int .i64 d0, .int .i64 d1, .int .i64 e0, .int .i64 e1])]) hC
                    refine hK.out _ _ (HS.out _ (hC'.tail.tail)) (fun _ => ?_)
                    exact wpAnyH_cast rfl (by kernel_rfl) (by kernel_rfl) (ih ⟨none, some pB, some pC, none, none⟩ _ (by simp only [Option.isSome, Bool.false_eq_true, if_false, if_true]; omega) hC')
                  refine AllReadyH.cons (o := ⟨some 8, Op.alloc 36, 0, _, _, none⟩) rfl (fun K hK => ?_) (?_)
                  · go_simp
                    have hC := hH.push [.int .i64 0, .int .i64 0] 36
                    change Has w _ (w2.alloc (.cells #[.int .i64 0, .int .i64 0] 36)) at hC
                    generalize w2.alloc (.cells #[.int .i64 0, .int .i64 0] 36) = W at *
                    generalize w2.heap.size = pD at *
                    have hC' : Has w ([(pC, [.int .i64 0, .int .i64 0]), (pD, [.int .i64 0, .int .i64 0])] ++ [(P, [.int .i64 a0, .int .i64 a1, .int .i64 b0, .int .i64 b1, .int .i64 c0, .int .i64 c1, .int .i64 d0, .int .i64 d1, .int .i64 e0, .int .i64 e1])]) W := Has.ins (l1 := [(pC, [.int .i64 0, .int .i64 0])]) (l2 := [] ++ [(P, [.int .i64 a0, .int .i64 a1, .int .i64 b0, .int .i64 b1, .int .i64 c0, .int .i64 c1, .int .i64 d0, .int .i64 d1, .int .i64 e0, .int .i64 e1])]) hC
                    refine hK.out _ _ (HS.out _ (hC'.tail.tail)) (fun _ => ?_)
                    exact wpAnyH_cast rfl (by kernel_rfl) (by kernel_rfl) (ih ⟨none, none, some pC, some pD, none⟩ _ (by simp only [Option.isSome, Bool.false_eq_true, if_false, if_true]; omega) hC')
                  refine AllReadyH.cons (o := ⟨some 9, Op.alloc 36, 0, _, _, none⟩) rfl (fun K hK => ?_) (AllReadyH.nil)
                  · go_simp
                    have hC := hH.push [.int .i64 0, .int .i64 0] 36
                    change Has w _ (w2.alloc (.cells #[.int .i64 0, .int .i64 0] 36)) at hC
                    generalize w2.alloc (.cells #[.int .i64 0, .int .i64 0] 36) = W at *
                    generalize w2.heap.size = pE at *
                    have hC' : Has w ([(pC, [.int .i64 0, .int .i64 0]), (pE, [.int .i64 0, .int .i64 0])] ++ [(P, [.int .i64 a0, .int .i64 a1, .int .i64 b0, .int .i64 b1, .int .i64 c0, .int .i64 c1, .int .i64 d0, .int .i64 d1, .int .i64 e0, .int .i64 e1])]) W := Has.ins (l1 := [(pC, [.int .i64 0, .int .i64 0])]) (l2 := [] ++ [(P, [.int .i64 a0, .int .i64 a1, .int .i64 b0, .int .i64 b1, .int .i64 c0, .int .i64 c1, .int .i64 d0, .int .i64 d1, .int .i64 e0, .int .i64 e1])]) hC
                    refine hK.out _ _ (HS.out _ (hC'.tail.tail)) (fun _ => ?_)
                    exact wpAnyH_cast rfl (by kernel_rfl) (by kernel_rfl) (ih ⟨none, none, some pC, none, some pE⟩ _ (by simp only [Option.isSome, Bool.false_eq_true, if_false, if_true]; omega) hC')
                | some pE =>
                  simp only [Option.isSome, Bool.false_eq_true, if_false, if_true] at hk
                  simp only [putp, Act.put, List.setIfInBounds_toArray, List.set_cons_zero, List.set_cons_succ]
                  refine wpAnyH_listed #[true, true, true, true, true, true, true, true, true, true, false, false, true, false, true, false, false, false, false, false] (by kernel_rfl) ?_
                  refine wpAnyH_ready (rs := [10, 11, 13]) (by kernel_rfl) (by simp) ?_
                  refine AllReadyH.cons (o := ⟨some 5, Op.alloc 36, 0, _, _, none⟩) rfl (fun K hK => ?_) (?_)
                  · go_simp
                    have hC := hH.push [.int .i64 0, .int .i64 0] 36
                    change Has w _ (w2.alloc (.cells #[.int .i64 0, .int .i64 0] 36)) at hC
                    generalize w2.alloc (.cells #[.int .i64 0, .int .i64 0] 36) = W at *
                    generalize w2.heap.size = pA at *
                    have hC' : Has w ([(pA, [.int .i64 0, .int .i64 0]), (pC, [.int .i64 0, .int .i64 0]), (pE, [.int .i64 0, .int .i64 0])] ++ [(P, [.int .i64 a0, .int .i64 a1, .int .i64 b0, .int .i64 b1, .int .i64 c0, .int .i64 c1, .int .i64 d0, .int .i64 d1, .int .i64 e0, .int .i64 e1])]) W := Has.ins (l1 := []) (l2 := [(pC, [.int .i64 0, .int .i64 0]), (pE, [.int .i64 0, .int .i64 0])] ++ [(P, [.int .i64 a0, .int .i64 a1, .int .i64 b0, .int .i64 b1, .int .i64 c0, .int .i64 c1, .int .i64 d0, .int .i64 d1, .int .i64 e0, .int .i64 e1])]) hC
                    refine hK.out _ _ (HS.out _ (hC'.tail.tail.tail)) (fun _ => ?_)
                    exact wpAnyH_cast rfl (by kernel_rfl) (by kernel_rfl) (ih ⟨some pA, none, some pC, none, some pE⟩ _ (by simp only [Option.isSome, Bool.false_eq_true, if_false, if_true]; omega) hC')
                  refine AllReadyH.cons (o := ⟨some 6, Op.alloc 36, 0, _, _, none⟩) rfl (fun K hK => ?_) (?_)
                  · go_simp
                    have hC := hH.push [.int .i64 0, .int .i64 0] 36
                    change Has w _ (w2.alloc (.cells #[.int .i64 0, .int .i64 0] 36)) at hC
                    generalize w2.alloc (.cells #[.int .i64 0, .int .i64 0] 36) = W at *
                    generalize w2.heap.size = pB at *
                    have hC' : Has w ([(pB, [.int .i64 0, .int .i64 0]), (pC, [.int .i64 0, .int .i64 0]), (pE, [.int .i64 0, .int .i64 0])] ++ [(P, [.int .i64 a0, .int .i64 a1, .int .i64 b0, .int .i64 b1, .int .i64 c0, .int .i64 c1, .int .i64 d0, .int .i64 d1, .int .i64 e0, .int .i64 e1])]) W := Has.ins (l1 := []) (l2 := [(pC, [.int .i64 0, .int .i64 0]), (pE, [.int .i64 0, .int .i64 0])] ++ [(P, [.int .i64 a0, .int .i64 a1, .int .i64 b0, .int .i64 b1, .int .i64 c0, .int .i64 c1, .int .i64 d0, .int .i64 d1, .int .i64 e0, .int .i64 e1])]) hC
                    refine hK.out _ _ (HS.out _ (hC'.tail.tail.tail)) (fun _ => ?_)
                    exact wpAnyH_cast rfl (by kernel_rfl) (by kernel_rfl) (ih ⟨none, some pB, some pC, none, some pE⟩ _ (by simp only [Option.isSome, Bool.false_eq_true, if_false, if_true]; omega) hC')
                  refine AllReadyH.cons (o := ⟨some 8, Op.alloc 36, 0, _, _, none⟩) rfl (fun K hK => ?_) (AllReadyH.nil)
                  · go_simp
                    have hC := hH.push [.int .i64 0, .int .i64 0] 36
                    change Has w _ (w2.alloc (.cells #[.int .i64 0, .int .i64 0] 36)) at hC
                    generalize w2.alloc (.cells #[.int .i64 0, .int .i64 0] 36) = W at *
                    generalize w2.heap.size = pD at *
                    have hC' : Has w ([(pC, [.int .i64 0, .int .i64 0]), (pD, [.int .i64 0, .int .i64 0]), (pE, [.int .i64 0, .int .i64 0])] ++ [(P, [.int .i64 a0, .int .i64 a1, .int .i64 b0, .int .i64 b1, .int .i64 c0, .int .i64 c1, .int .i64 d0, .int .i64 d1, .int .i64 e0, .int .i64 e1])]) W := Has.ins (l1 := [(pC, [.int .i64 0, .int .i64 0])]) (l2 := [(pE, [.int .i64 0, .int .i64 0])] ++ [(P, [.int .i64 a0, .int .i64 a1, .int .i64 b0, .int .i64 b1, .int .i64 c0, .int .i64 c1, .int .i64 d0, .int .i64 d1, .int .i64 e0, .int .i64 e1])]) hC
                    refine hK.out _ _ (HS.out _ (hC'.tail.tail.tail)) (fun _ => ?_)
                    exact wpAnyH_cast rfl (by kernel_rfl) (by kernel_rfl) (ih ⟨none, none, some pC, some pD, some pE⟩ _ (by simp only [Option.isSome, Bool.false_eq_true, if_false, if_true]; omega) hC')
              | some pD =>
                cases pe with
                | none =>
                  simp only [Option.isSome, Bool.false_eq_true, if_false, if_true] at hk
                  simp only [putp, Act.put, List.setIfInBounds_toArray, List.set_cons_zero, List.set_cons_succ]
                  refine wpAnyH_listed #[true, true, true, true, true, true, true, true, true, true, false, false, true, true, false, false, false, false, false, false] (by kernel_rfl) ?_
                  refine wpAnyH_ready (rs := [10, 11, 14]) (by kernel_rfl) (by simp) ?_
                  refine AllReadyH.cons (o := ⟨some 5, Op.alloc 36, 0, _, _, none⟩) rfl (fun K hK => ?_) (?_)
                  · go_simp
                    have hC := hH.push [.int .i64 0, .int .i64 0] 36
                    change Has w _ (w2.alloc (.cells #[.int .i64 0, .int .i64 0] 36)) at hC
                    generalize w2.alloc (.cells #[.int .i64 0, .int .i64 0] 36) = W at *
                    generalize w2.heap.size = pA at *
                    have hC' : Has w ([(pA, [.int .i64 0, .int .i64 0]), (pC, [.int .i64 0, .int .i64 0]), (pD, [.int .i64 0, .int .i64 0])] ++ [(P, [.int .i64 a0, .int .i64 a1, .int .i64 b0, .int .i64 b1, .int .i64 c0, .int .i64 c1, .int .i64 d0, .int .i64 d1, .int .i64 e0, .int .i64 e1])]) W := Has.ins (l1 := []) (l2 := [(pC, [.int .i64 0, .int .i64 0]), (pD, [.int .i64 0, .int .i64 0])] ++ [(P, [.int .i64 a0, .int .i64 a1, .int .i64 b0, .int .i64 b1, .int .i64 c0, .int .i64 c1, .int .i64 d0, .int .i64 d1, .int .i64 e0, .int .i64 e1])]) hC
                    refine hK.out _ _ (HS.out _ (hC'.tail.tail.tail)) (fun _ => ?_)
                    exact wpAnyH_cast rfl (by kernel_rfl) (by kernel_rfl) (ih ⟨some pA, none, some pC, some pD, none⟩ _ (by simp only [Option.isSome, Bool.false_eq_true, if_false, if_true]; omega) hC')
                  refine AllReadyH.cons (o := ⟨some 6, Op.alloc 36, 0, _, _, none⟩) rfl (fun K hK => ?_) (?_)
                  · go_simp
                    have hC := hH.push [.int .i64 0, .int .i64 0] 36
                    change Has w _ (w2.alloc (.cells #[.int .i64 0, .int .i64 0] 36)) at hC
                    generalize w2.alloc (.cells #[.int .i64 0, .int .i64 0] 36) = W at *
                    generalize w2.heap.size = pB at *
                    have hC' : Has w ([(pB, [.int .i64 0, .int .i64 0]), (pC, [.int .i64 0, .int .i64 0]), (pD, [.int .i64 0, .int .i64 0])] ++ [(P, [.int .i64 a0, .int .i64 a1, .int .i64 b0, .int .i64 b1, .int .i64 c0, .int .i64 c1, .int .i64 d0, .int .i64 d1, .int .i64 e0, .int .i64 e1])]) W := Has.ins (l1 := []) (l2 := [(pC, [.int .i64 0, .int .i64 0]), (pD, [.int .i64 0, .int .i64 0])] ++ [(P, [.int .i64 a0, .int .i64 a1, .int .i64 b0, .int .i64 b1, .int .i64 c0, .int .i64 c1, .int .i64 d0, .int .i64 d1, .int .i64 e0, .int .i64 e1])]) hC
                    refine hK.out _ _ (HS.out _ (hC'.tail.tail.tail)) (fun _ => ?_)
                    exact wpAnyH_cast rfl (by kernel_rfl) (by kernel_rfl) (ih ⟨none, some pB, some pC, some pD, none⟩ _ (by simp only [Option.isSome, Bool.false_eq_true, if_false, if_true]; omega) hC')
                  refine AllReadyH.cons (o := ⟨some 9, Op.alloc 36, 0, _, _, none⟩) rfl (fun K hK => ?_) (AllReadyH.nil)
                  · go_simp
                    have hC := hH.push [.int .i64 0, .int .i64 0] 36
                    change Has w _ (w2.alloc (.cells #[.int .i64 0, .int .i64 0] 36)) at hC
                    generalize w2.alloc (.cells #[.int .i64 0, .int .i64 0] 36) = W at *
                    generalize w2.heap.size = pE at *
                    have hC' : Has w ([(pC, [.int .i64 0, .int .i64 0]), (pD, [.int .i64 0, .int .i64 0]), (pE, [.int .i64 0, .int .i64 0])] ++ [(P, [.int .i64 a0, .int .i64 a1, .int .i64 b0, .int .i64 b1, .int .i64 c0, .int .i64 c1, .int .i64 d0, .int .i64 d1, .int .i64 e0, .int .i64 e1])]) W := Has.ins (l1 := [(pC, [.int .i64 0, .int .i64 0]), (pD, [.int .i64 0, .int .i64 0])]) (l2 := [] ++ [(P, [.int .i64 a0, .int .i64 a1, .int .i64 b0, .int .i64 b1, .int .i64 c0, .int .i64 c1, .int .i64 d0, .int .i64 d1, .int .i64 e0, .int .i64 e1])]) hC
                    refine hK.out _ _ (HS.out _ (hC'.tail.tail.tail)) (fun _ => ?_)
                    exact wpAnyH_cast rfl (by kernel_rfl) (by kernel_rfl) (ih ⟨none, none, some pC, some pD, some pE⟩ _ (by simp only [Option.isSome, Bool.false_eq_true, if_false, if_true]; omega) hC')
                | some pE =>
                  simp only [Option.isSome, Bool.false_eq_true, if_false, if_true] at hk
                  simp only [putp, Act.put, List.setIfInBounds_toArray, List.set_cons_zero, List.set_cons_succ]
                  refine wpAnyH_listed #[true, true, true, true, true, true, true, true, true, true, false, false, true, true, true, false, false, false, false, false] (by kernel_rfl) ?_
                  refine wpAnyH_ready (rs := [10, 11]) (by kernel_rfl) (by simp) ?_
                  refine AllReadyH.cons (o := ⟨some 5, Op.alloc 36, 0, _, _, none⟩) rfl (fun K hK => ?_) (?_)
                  · go_simp
                    have hC := hH.push [.int .i64 0, .int .i64 0] 36
                    change Has w _ (w2.alloc (.cells #[.int .i64 0, .int .i64 0] 36)) at hC
                    generalize w2.alloc (.cells #[.int .i64 0, .int .i64 0] 36) = W at *
                    generalize w2.heap.size = pA at *
                    have hC' : Has w ([(pA, [.int .i64 0, .int .i64 0]), (pC, [.int .i64 0, .int .i64 0]), (pD, [.int .i64 0, .int .i64 0]), (pE, [.int .i64 0, .int .i64 0])] ++ [(P, [.int .i64 a0, .int .i64 a1, .int .i64 b0, .int .i64 b1, .int .i64 c0, .int .i64 c1, .int .i64 d0, .int .i64 d1, .int .i64 e0, .int .i64 e1])]) W := Has.ins (l1 := []) (l2 := [(pC, [.int .i64 0, .int .i64 0]), (pD, [.int .i64 0, .int .i64 0]), (pE, [.int .i64 0, .int .i64 0])] ++ [(P, [.int .i64 a0, .int .i64 a1, .int .i64 b0, .int .i64 b1, .int .i64 c0, .int .i64 c1, .int .i64 d0, .int .i64 d1, .int .i64 e0, .int .i64 e1])]) hC
                    refine hK.out _ _ (HS.out _ (hC'.tail.tail.tail.tail)) (fun _ => ?_)
                    exact wpAnyH_cast rfl (by kernel_rfl) (by kernel_rfl) (ih ⟨some pA, none, some pC, some pD, some pE⟩ _ (by simp only [Option.isSome, Bool.false_eq_true, if_false, if_true]; omega) hC')
                  refine AllReadyH.cons (o := ⟨some 6, Op.alloc 36, 0, _, _, none⟩) rfl (fun K hK => ?_) (AllReadyH.nil)
                  · go_simp
                    have hC := hH.push [.int .i64 0, .int .i64 0] 36
                    change Has w _ (w2.alloc (.cells #[.int .i64 0, .int .i64 0] 36)) at hC
                    generalize w2.alloc (.cells #[.int .i64 0, .int .i64 0] 36) = W at *
                    generalize w2.heap.size = pB at *
                    have hC' : Has w ([(pB, [.int .i64 0, .int .i64 0]), (pC, [.int .i64 0, .int .i64 0]), (pD, [.int .i64 0, .int .i64 0]), (pE, [.int .i64 0, .int .i64 0])] ++ [(P, [.int .i64 a0, .int .i64 a1, .int .i64 b0, .int .i64 b1, .int .i64 c0, .int .i64 c1, .int .i64 d0, .int .i64 d1, .int .i64 e0, .int .i64 e1])]) W := Has.ins (l1 := []) (l2 := [(pC, [.int .i64 0, .int .i64 0]), (pD, [.int .i64 0, .int .i64 0]), (pE, [.int .i64 0, .int .i64 0])] ++ [(P, [.int .i64 a0, .int .i64 a1, .int .i64 b0, .int .i64 b1, .int .i64 c0, .int .i64 c1, .int .i64 d0, .int .i64 d1, .int .i64 e0, .int .i64 e1])]) hC
                    refine hK.out _ _ (HS.out _ (hC'.tail.tail.tail.tail)) (fun _ => ?_)
                    exact wpAnyH_cast rfl (by kernel_rfl) (by kernel_rfl) (ih ⟨none, some pB, some pC, some pD, some pE⟩ _ (by simp only [Option.isSome, Bool.false_eq_true, if_false, if_true]; omega) hC')
          | some pB =>
            cases pc with
            | none =>
              cases pd with
              | none =>
                cases pe with
                | none =>
                  simp only [Option.isSome, Bool.false_eq_true, if_false, if_true] at hk
                  simp only [putp, Act.put, List.setIfInBounds_toArray, List.set_cons_zero, List.set_cons_succ]
                  refine wpAnyH_listed #[true, true, true, true, true, true, true, true, true, true, false, true, false, false, false, false, false, false, false, false] (by kernel_rfl) ?_
                  refine wpAnyH_ready (rs := [10, 12, 13, 14]) (by kernel_rfl) (by simp) ?_
                  refine AllReadyH.cons (o := ⟨some 5, Op.alloc 36, 0, _, _, none⟩) rfl (fun K hK => ?_) (?_)
                  · go_simp
                    have hC := hH.push [.int .i64 0, .int .i64 0] 36
                    change Has w _ (w2.alloc (.cells #[.int .i64 0, .int .i64 0] 36)) at hC
                    generalize w2.alloc (.cells #[.int .i64 0, .int .i64 0] 36) = W at *
                    generalize w2.heap.size = pA at *
                    have hC' : Has w ([(pA, [.int .i64 0, .int .i64 0]), (pB, [.int .i64 0, .int .i64 0])] ++ [(P, [.int .i64 a0, .int .i64 a1, .int .i64 b0, .int .i64 b1, .int .i64 c0, .int .i64 c1, .int .i64 d0, .int .i64 d1, .int .i64 e0, .int .i64 e1])]) W := Has.ins (l1 := []) (l2 := [(pB, [.int .i64 0, .int .i64 0])] ++ [(P, [.int .i64 a0, .int .i64 a1, .int .i64 b0, .int .i64 b1, .int .i64 c0, .int .i64 c1, .int .i64 d0, .int .i64 d1, .int .i64 e0, .int .i64 e1])]) hC
                    refine hK.out _ _ (HS.out _ (hC'.tail.tail)) (fun _ => ?_)
                    exact wpAnyH_cast rfl (by kernel_rfl) (by kernel_rfl) (ih ⟨some pA, some pB, none, none, none⟩ _ (by simp only [Option.isSome, Bool.false_eq_true, if_false, if_true]; omega) hC')
                  refine AllReadyH.cons (o := ⟨some 7, Op.alloc 36, 0, _, _, none⟩) rfl (fun K hK => ?_) (?_)
                  · go_simp
                    have hC := hH.push [.int .i64 0, .int .i64 0] 36
                    change Has w _ (w2.alloc (.cells #[.int .i64 0, .int .i64 0] 36)) at hC
                    generalize w2.alloc (.cells #[.int .i64 0, .int .i64 0] 36) = W at *
                    generalize w2.heap.size = pC at *
                    have hC' : Has w ([(pB, [.int .i64 0, .int .i64 0]), (pC, [.int .i64 0, .int .i64 0])] ++ [(P, [.int .i64 a0, .int .i64 a1, .int .i64 b0, .int .i64 b1, .int .i64 c0, .int .i64 c1, .int .i64 d0, .int .i64 d1, .int .i64 e0, .int .i64 e1])]) W := Has.ins (l1 := [(pB, [.int .i64 0, .int .i64 0])]) (l2 := [] ++ [(P, [.int .i64 a0, .int .i64 a1, .int .i64 b0, .int .i64 b1, .int .i64 c0, .int .i64 c1, .int .i64 d0, .int .i64 d1, .int .i64 e0, .int .i64 e1])]) hC
                    refine hK.out _ _ (HS.out _ (hC'.tail.tail)) (fun _ => ?_)
                    exact wpAnyH_cast rfl (by kernel_rfl) (by kernel_rfl) (ih ⟨none, some pB, some pC, none, none⟩ _ (by simp only [Option.isSome, Bool.false_eq_true, if_false, if_true]; omega) hC')
                  refine AllReadyH.cons (o := ⟨some 8, Op.alloc 36, 0, _, _, none⟩) rfl (fun K hK => ?_) (?_)
                  · go_simp
                    have hC := hH.push [.int .i64 0, .int .i64 0] 36
                    change Has w _ (w2.alloc (.cells #[.int .i64 0, .int .i64 0] 36)) at hC
                    generalize w2.alloc (.cells #[.int .i64 0, .int .i64 0] 36) = W at *
                    generalize w2.heap.size = pD at *
                    have hC' : Has w ([(pB, [.int .i64 0, .int .i64 0]), (pD, [.int .i64 0, .int .i64 0])] ++ [(P, [.int .i64 a0, .int .i64 a1, .int .i64 b0, .int .i64 b1, .int .i64 c0, .int .i64 c1, .int .i64 d0, .int .i64 d1, .int .i64 e0, .int .i64 e1])]) W := Has.ins (l1 := [(pB, [.int .i64 0, .int .i64 0])]) (l2 := [] ++ [(P, [.int .i64 a0, .int .i64 a1, .int .i64 b0, .int .i64 b1, .int .i64 c0, .int .i64 c1, .int .i64 d0, .int .i64 d1, .int .i64 e0, .int .i64 e1])]) hC
                    refine hK.out _ _ (HS.out _ (hC'.tail.tail)) (fun _ => ?_)
                    exact wpAnyH_cast rfl (by kernel_rfl) (by kernel_rfl) (ih ⟨none, some pB, none, some pD, none⟩ _ (by simp only [Option.isSome, Bool.false_eq_true, if_false, if_true]; omega) hC')
                  refine AllReadyH.cons (o := ⟨some 9, Op.alloc 36, 0, _, _, none⟩) rfl (fun K hK => ?_) (AllReadyH.nil)
                  · go_simp
                    have hC := hH.push [.int .i64 0, .int .i64 0] 36
                    change Has w _ (w2.alloc (.cells #[.int .i64 0, .int .i64 0] 36)) at hC
                    generalize w2.alloc (.cells #[.int .i64 0, .int .i64 0] 36) = W at *
                    generalize w2.heap.size = pE at *
                    have hC' : Has w ([(pB, [.int .i64 0, .int .i64 0]), (pE, [.int .i64 0, .int .i64 0])] ++ [(P, [.int .i64 a0, .int .i64 a1, .int .i64 b0, .int .i64 b1, .int .i64 c0, .int .i64 c1, .int .i64 d0, .int .i64 d1, .int .i64 e0, .int .i64 e1])]) W := Has.ins (l1 := [(pB, [.int .i64 0, .int .i64 0])]) (l2 := [] ++ [(P, [.int .i64 a0, .int .i64 a1, .int .i64 b0, .int .i64 b1, .int .i64 c0, .int .i64 c1, .int .i64 d0, .int .i64 d1, .int .i64 e0, .int .i64 e1])]) hC
                    refine hK.out _ _ (HS.out _ (hC'.tail.tail)) (fun _ => ?_)
                    exact wpAnyH_cast rfl (by kernel_rfl) (by kernel_rfl) (ih ⟨none, some pB, none, none, some pE⟩ _ (by simp only [Option.isSome, Bool.false_eq_true, if_false, if_true]; omega) hC')
                | some pE =>
                  simp only [Option.isSome, Bool.false_eq_true, if_false, if_true] at hk
                  simp only [putp, Act.put, List.setIfInBounds_toArray, List.set_cons_zero, List.set_cons_succ]
                  refine wpAnyH_listed #[true, true, true, true, true, true, true, true, true, true, false, true, false, false, true, false, false, false, false, false] (by kernel_rfl) ?_
                  refine wpAnyH_ready (rs := [10, 12, 13]) (by kernel_rfl) (by simp) ?_
                  refine AllReadyH.cons (o := ⟨some 5, Op.alloc 36, 0, _, _, none⟩) rfl (fun K hK => ?_) (?_)
                  · go_simp
                    have hC := hH.push [.int .i64 0, .int .i64 0] 36
                    change Has w _ (w2.alloc (.cells #[.int .i64 0, .int .i64 0] 36)) at hC
                    generalize w2.alloc (.cells #[.int .i64 0, .int .i64 0] 36) = W at *
                    generalize w2.heap.size = pA at *
                    have hC' : Has w ([(pA, [.int .i64 0, .int .i64 0]), (pB, [.int .i64 0, .int .i64 0]), (pE, [.int .i64 0, .int .i64 0])] ++ [(P, [.int .i64 a0, .int .i64 a1, .int .i64 b0, .int .i64 b1, .int .i64 c0, .int .i64 c1, .int .i64 d0, .int .i64 d1, .int .i64 e0, .int .i64 e1])]) W := Has.ins (l1 := []) (l2 := [(pB, [.int .i64 0, .int .i64 0]), (pE, [.int .i64 0, .int .i64 0])] ++ [(P, [.int .i64 a0, .int .i64 a1, .int .i64 b0, .int .i64 b1, .int .i64 c0, .int .i64 c1, .int .i64 d0, .int .i64 d1, .int .i64 e0, .int .i64 e1])]) hC
                    refine hK.out _ _ (HS.out _ (hC'.tail.tail.tail)) (fun _ => ?_)
                    exact wpAnyH_cast rfl (by kernel_rfl) (by kernel_rfl) (ih ⟨some pA, some pB, none, none, some pE⟩ _ (by simp only [Option.isSome, Bool.false_eq_true, if_false, if_true]; omega) hC')
                  refine AllReadyH.cons (o := ⟨some 7, Op.alloc 36, 0, _, _, none⟩) rfl (fun K hK => ?_) (?_)
                  · go_simp
                    have hC := hH.push [.int .i64 0, .int .i64 0] 36
                    change Has w _ (w2.alloc (.cells #[.int .i64 0, .int .i64 0] 36)) at hC
                    generalize w2.alloc (.cells #[.int .i64 0, .int .i64 0] 36) = W at *
                    generalize w2.heap.size = pC at *
                    have hC' : Has w ([(pB, [.int .i64 0, .int .i64 0]), (pC, [.int .i64 0, .int .i64 0]), (pE, [.int .i64 0, .int .i64 0])] ++ [(P, [.int .i64 a0, .int .i64 a1, .int .i64 b0, .int .i64 b1, .int .i64 c0, .int .i64 c1, .int .i64 d0, .int .i64 d1, .int .i64 e0, .int .i64 e1])]) W := Has.ins (l1 := [(pB, [.int .i64 0, .int .i64 0])]) (l2 := [(pE, [.int .i64 0, .int .i64 0])] ++ [(P, [.int .i64 a0, .int .i64 a1, .int .i64 b0, .int .i64 b1, .int .i64 c0, .int .i64 c1, .int .i64 d0, .int .i64 d1, .int .i64 e0, .int .i64 e1])]) hC
                    refine hK.out _ _ (HS.out _ (hC'.tail.tail.tail)) (fun _ => ?_)
                    exact wpAnyH_cast rfl (by kernel_rfl) (by kernel_rfl) (ih ⟨none, some pB, some pC, none, some pE⟩ _ (by simp only [Option.isSome, Bool.false_eq_true, if_false, if_true]; omega) hC')
                  refine AllReadyH.cons (o := ⟨some 8, Op.alloc 36, 0, _, _, none⟩) rfl (fun K hK => ?_) (AllReadyH.nil)
                  · go_simp
                    have hC := hH.push [.int .i64 0, .int .i64 0] 36
                    change Has w _ (w2.alloc (.cells #[.int .i64 0, .int .i64 0] 36)) at hC
                    generalize w2.alloc (.cells #[.int .i64 0, .int .i64 0] 36) = W at *
                    generalize w2.heap.size = pD at *
                    have hC' : Has w ([(pB, [.int .i64 0, .int .i64 0]), (pD, [.int .i64 0, .int .i64 0]), (pE, [.int .i64 0, .int .i64 0])] ++ [(P, [.int .i64 a0, .int .i64 a1, .int .i64 b0, .int .i64 b1, .int .i64 c0, .int .i64 c1, .int .i64 d0, .int .i64 d1, .int .i64 e0, .int .i64 e1])]) W := Has.ins (l1 := [(pB, [.int .i64 0, .int .i64 0])]) (l2 := [(pE, [.int .i64 0, .int .i64 0])] ++ [(P, [.int .i64 a0, .int .i64 a1, .int .i64 b0, .int .i64 b1, .int .i64 c0, .int .i64 c1, .int .i64 d0, .int .i64 d1, .int .i64 e0, .int .i64 e1])]) hC
                    refine hK.out _ _ (HS.out _ (hC'.tail.tail.tail)) (fun _ => ?_)
                    exact wpAnyH_cast rfl (by kernel_rfl) (by kernel_rfl) (ih ⟨none, some pB, none, some pD, some pE⟩ _ (by simp only [Option.isSome, Bool.false_eq_true, if_false, if_true]; omega) hC')
              | some pD =>
                cases pe with
                | none =>
                  simp only [Option.isSome, Bool.false_eq_true, if_false, if_true] at hk
                  simp only [putp, Act.put, List.setIfInBounds_toArray, List.set_cons_zero, List.set_cons_succ]
                  refine wpAnyH_listed #[true, true, true, true, true, true, true, true, true, true, false, true, false, true, false, false, false, false, false, false] (by kernel_rfl) ?_
                  refine wpAnyH_ready (rs := [10, 12, 14]) (by kernel_rfl) (by simp) ?_
                  refine AllReadyH.cons (o := ⟨some 5, Op.alloc 36, 0, _, _, none⟩) rfl (fun K hK => ?_) (?_)
                  · go_simp
                    have hC := hH.push [.int .i64 0, .int .i64 0] 36
                    change Has w _ (w2.alloc (.cells #[.int .i64 0, .int .i64 0] 36)) at hC
                    generalize w2.alloc (.cells #[.int .i64 0, .int .i64 0] 36) = W at *
                    generalize w2.heap.size = pA at *
                    have hC' : Has w ([(pA, [.int .i64 0, .int .i64 0]), (pB, [.int .i64 0, .int .i64 0]), (pD, [.int .i64 0, .int .i64 0])] ++ [(P, [.int .i64 a0, .int .i64 a1, .int .i64 b0, .int .i64 b1, .int .i64 c0, .int .i64 c1, .int .i64 d0, .int .i64 d1, .int .i64 e0, .int .i64 e1])]) W := Has.ins (l1 := []) (l2 := [(pB, [.int .i64 0, .int .i64 0]), (pD, [.int .i64 0, .int .i64 0])] ++ [(P, [.int .i64 a0, .int .i64 a1, .int .i64 b0, .int .i64 b1, .int .i64 c0, .int .i64 c1, .int .i64 d0, .int .i64 d1, .int .i64 e0, .int .i64 e1])]) hC
                    refine hK.out _ _ (HS.out _ (hC'.tail.tail.tail)) (fun _ => ?_)
                    exact wpAnyH_cast rfl (by kernel_rfl) (by kernel_rfl) (ih ⟨some pA, some pB, none, some pD, none⟩ _ (by simp only [Option.isSome, Bool.false_eq_true, if_false, if_true]; omega) hC')
                  refine AllReadyH.cons (o := ⟨some 7, Op.alloc 36, 0, _, _, none⟩) rfl (fun K hK => ?_) (?_)
                  · go_simp
                    have hC := hH.push [.int .i64 0, .int .i64 0] 36
                    change Has w _ (w2.alloc (.cells #[.int .i64 0, .int .i64 0] 36)) at hC
                    generalize w2.alloc (.cells #[.int .i64 0, .int .i64 0] 36) = W at *
                    generalize w2.heap.size = pC at *
                    have hC' : Has w ([(pB, [.int .i64 0, .int .i64 0]), (pC, [.int .i64 0, .int .i64 0]), (pD, [.int .i64 0, .int .i64 0])] ++ [(P, [.int .i64 a0, .int .i64 a1, .int .i64 b0, .int .i64 b1, .int .i64 c0, .int .i64 c1, .int .i64 d0, .int .i64 d1, .int .i64 e0, .int .i64 e1])]) W := Has.ins (l1 := [(pB, [.int .i64 0, .int .i64 0])]) (l2 := [(pD, [.int .i64 0, .int .i64 0])] ++ [(P, [.int .i64 a0, .int .i64 a1, .int .i64 b0, .int .i64 b1, .int .i64 c0, .int .i64 c1, .int .i64 d0, .int .i64 d1, .int .i64 e0, .int .i64 e1])]) hC
                    refine hK.out _ _ (HS.out _ (hC'.tail.tail.tail)) (fun _ => ?_)
                    exact wpAnyH_cast rfl (by kernel_rfl) (by kernel_rfl) (ih ⟨none, some pB, some pC, some pD, none⟩ _ (by simp only [Option.isSome, Bool.false_eq_true, if_false, if_true]; omega) hC')
                  refine AllReadyH.cons (o := ⟨some 9, Op.alloc 36, 0, _, _, none⟩) rfl (fun K hK => ?_) (AllReadyH.nil)
                  · go_simp
                    have hC := hH.push [.int .i64 0, .int .i64 0] 36
                    change Has w _ (w2.alloc (.cells #[.int .i64 0, .int .i64 0] 36)) at hC
                    generalize w2.alloc (.cells #[.int .i64 0, .int .i64 0] 36) = W at *
                    generalize w2.heap.size = pE at *
                    have hC' : Has w ([(pB, [.int .i64 0, .int .i64 0]), (pD, [.int .i64 0, .int .i64 0]), (pE, [.int .i64 0, .int .i64 0])] ++ [(P, [.int .i64 a0, .int .i64 a1, .int .i64 b0, .int .i64 b1, .int .i64 c0, .int .i64 c1, .int .i64 d0, .int .i64 d1, .int .i64 e0, .int .i64 e1])]) W := Has.ins (l1 := [(pB, [.int .i64 0, .int .i64 0]), (pD, [.int .i64 0, .int .i64 0])]) (l2 := [] ++ [(P, [.int .i64 a0, .int .i64 a1, .int .i64 b0, .int .i64 b1, .int .i64 c0, .int .i64 c1, .int .i64 d0, .int .i64 d1, .int .i64 e0, .int .i64 e1])]) hC
                    refine hK.out _ _ (HS.out _ (hC'.tail.tail.tail)) (fun _ => ?_)
                    exact wpAnyH_cast rfl (by kernel_rfl) (by kernel_rfl) (ih ⟨none, some pB, none, some pD, some pE⟩ _ (by simp only [Option.isSome, Bool.false_eq_true, if_false, if_true]; omega) hC')
                | some pE =>
                  simp only [Option.isSome, Bool.false_eq_true, if_false, if_true] at hk
                  simp only [putp, Act.put, List.setIfInBounds_toArray, List.set_cons_zero, List.set_cons_succ]
                  refine wpAnyH_listed #[true, true, true, true, true, true, true, true, true, true, false, true, false, true, true, false, false, false, false, false] (by kernel_rfl) ?_
                  refine wpAnyH_ready (rs := [10, 12]) (by kernel_rfl) (by simp) ?_
                  refine AllReadyH.cons (o := ⟨some 5, Op.alloc 36, 0, _, _, none⟩) rfl (fun K hK => ?_) (?_)
                  · go_simp
                    have hC := hH.push [.int .i64 0, .int .i64 0] 36
                    change Has w _ (w2.alloc (.cells #[.int .i64 0, .int .i64 0] 36)) at hC
                    generalize w2.alloc (.cells #[.int .i64 0, .int .i64 0] 36) = W at *
                    generalize w2.heap.size = pA at *
                    have hC' : Has w ([(pA, [.int .i64 0, .int .i64 0]), (pB, [.int .i64 0, .int .i64 0]), (pD, [.int .i64 0, .int .i64 0]), (pE, [.int .i64 0, .int .i64 0])] ++ [(P, [.int .i64 a0, .int .i64 a1, .int .i64 b0, .int .i64 b1, .int .i64 c0, .int .i64 c1, .int .i64 d0, .int .i64 d1, .int .i64 e0, .int .i64 e1])]) W := Has.ins (l1 := []) (l2 := [(pB, [.int .i64 0, .int .i64 0]), (pD, [.int .i64 0, .int .i64 0]), (pE, [.int .i64 0, .int .i64 0])] ++ [(P, [.int .i64 a0, .int .i64 a1, .int .i64 b0, .int .i64 b1, .int .i64 c0, .int .i64 c1, .int .i64 d0, .int .i64 d1, .int .i64 e0, .int .i64 e1])]) hC
                    refine hK.out _ _ (HS.out _ (hC'.tail.tail.tail.tail)) (fun _ => ?_)
                    exact wpAnyH_cast rfl (by kernel_rfl) (by kernel_rfl) (ih ⟨some pA, some pB, none, some pD, some pE⟩ _ (by simp only [Option.isSome, Bool.false_eq_true, if_false, if_true]; omega) hC')
                  refine AllReadyH.cons (o := ⟨some 7, Op.alloc 36, 0, _, _, none⟩) rfl (fun K hK => ?_) (AllReadyH.nil)
                  · go_simp
                    have hC := hH.push [.int .i64 0, .int .i64 0] 36
                    change Has w _ (w2.alloc (.cells #[.int .i64 0, .int .i64 0] 36)) at hC
                    generalize w2.alloc (.cells #[.int .i64 0, .int .i64 0] 36) = W at *
                    generalize w2.heap.size = pC at *
                    have hC' : Has w ([(pB, [.int .i64 0, .int .i64 0]), (pC, [.int .i64 0, .int .i64 0]), (pD, [.int .i64 0, .int .i64 0]), (pE, [.int .i64 0, .int .i64 0])] ++ [(P, [.int .i64 a0, .int .i64 a1, .int .i64 b0, .int .i64 b1, .int .i64 c0, .int .i64 c1, .int .i64 d0, .int .i64 d1, .int .i64 e0, .int .i64 e1])]) W := Has.ins (l1 := [(pB, [.int .i64 0, .int .i64 0])]) (l2 := [(pD, [.int .i64 0, .int .i64 0]), (pE, [.int .i64 0, .int .i64 0])] ++ [(P, [.int .i64 a0, .int .i64 a1, .int .i64 b0, .int .i64 b1, .int .i64 c0, .int .i64 c1, .int .i64 d0, .int .i64 d1, .int .i64 e0, .int .i64 e1])]) hC
                    refine hK.out _ _ (HS.out _ (hC'.tail.tail.tail.tail)) (fun _ => ?_)
                    exact wpAnyH_cast rfl (by kernel_rfl) (by kernel_rfl) (ih ⟨none, some pB, some pC, some pD, some pE⟩ _ (by simp only [Option.isSome, Bool.false_eq_true, if_false, if_true]; omega) hC')
            | some pC =>
              cases pd with
              | none =>
                cases pe with
                | none =>
                  simp only [Option.isSome, Bool.false_eq_true, if_false, if_true] at hk
                  simp only [putp, Act.put, List.setIfInBounds_toArray, List.set_cons_zero, List.set_cons_succ]
                  refine wpAnyH_listed #[true, true, true, true, true, true, true, true, true, true, false, true, true, false, false, false, false, false, false, false] (by kernel_rfl) ?_
                  refine wpAnyH_ready (rs := [10, 13, 14]) (by kernel_rfl) (by simp) ?_
                  refine AllReadyH.cons (o := ⟨some 5, Op.alloc 36, 0, _, _, none⟩) rfl (fun K hK => ?_) (?_)
                  · go_simp
                    have hC := hH.push [.int .i64 0, .int .i64 0] 36
                    change Has w _ (w2.alloc (.cells #[.int .i64 0, .int .i64 0] 36)) at hC
                    generalize w2.alloc (.cells #[.int .i64 0, .int .i64 0] 36) = W at *
                    generalize w2.heap.size = pA at *
                    have hC' : Has w ([(pA, [.int .i64 0, .int .i64 0]), (pB, [.int .i64 0, .int .i64 0]), (pC, [.int .i64 0, .int .i64 0])] ++ [(P, [.int .i64 a0, .int .i64 a1, .int .i64 b0, .int .i64 b1, .int .i64 c0, .int .i64 c1, .int .i64 d0, .int .i64 d1, .int .i64 e0, .int .i64 e1])]) W := Has.ins (l1 := []) (l2 := [(pB, [.int .i64 0, .int .i64 0]), (pC, [.int .i64 0, .int .i64 0])] ++ [(P, [.int .i64 a0, .int .i64 a1, .int .i64 b0, .int .i64 b1, .int .i64 c0, .int .i64 c1, .int .i64 d0, .int .i64 d1, .int .i64 e0, .int .i64 e1])]) hC
                    refine hK.out _ _ (HS.out _ (hC'.tail.tail.tail)) (fun _ => ?_)
                    exact wpAnyH_cast rfl (by kernel_rfl) (by kernel_rfl) (ih ⟨some pA, some pB, some pC, none, none⟩ _ (by simp only [Option.isSome, Bool.false_eq_true, if_false, if_true]; omega) hC')
                  refine AllReadyH.cons (o := ⟨some 8, Op.alloc 36, 0, _, _, none⟩) rfl (fun K hK => ?_) (?_)
                  · go_simp
                    have hC := hH.push [.int .i64 0, .int .i64 0] 36
                    change Has w _ (w2.alloc (.cells #[.int .i64 0, .int .i64 0] 36)) at hC
                    generalize w2.alloc (.cells #[.int .i64 0, .int .i64 0] 36) = W at *
                    generalize w2.heap.size = pD at *
                    have hC' : Has w ([(pB, [.int .i64 0, .int .i64 0]), (pC, [.int .i64 0, .int .i64 0]), (pD, [.int .i64 0, .int .i64 0])] ++ [(P, [.int .i64 a0, .int .i64 a1, .int .i64 b0, .int .i64 b1, .int .i64 c0, .int .i64 c1, .int .i64 d0, .int .i64 d1, .int .i64 e0, .int .i64 e1])]) W := Has.ins (l1 := [(pB, [.int .i64 0, .int .i64 0]), (pC, [.int .i64 0, .int .i64 0])]) (l2 := [] ++ [(P, [.int .i64 a0, .int .i64 a1, .int .i64 b0, .int .i64 b1, .int .i64 c0, .int .i64 c1, .int .i64 d0, .int .i64 d1, .int .i64 e0, .int .i64 e1])]) hC
                    refine hK.out _ _ (HS.out _ (hC'.tail.tail.tail)) (fun _ => ?_)
                    exact wpAnyH_cast rfl (by kernel_rfl) (by kernel_rfl) (ih ⟨none, some pB, some pC, some pD, none⟩ _ (by simp only [Option.isSome, Bool.false_eq_true, if_false, if_true]; omega) hC')
                  refine AllReadyH.cons (o := ⟨some 9, Op.alloc 36, 0, _, _, none⟩) rfl (fun K hK => ?_) (AllReadyH.nil)
                  · go_simp
                    have hC := hH.push [.int .i64 0, .int .i64 0] 36
                    change Has w _ (w2.alloc (.cells #[.int .i64 0, .int .i64 0] 36)) at hC
                    generalize w2.alloc (.cells #[.int .i64 0, .int .i64 0] 36) = W at *
                    generalize w2.heap.size = pE at *
                    have hC' : Has w ([(pB, [.int .i64 0, .int .i64 0]), (pC, [.int .i64 0, .int .i64 0]), (pE, [.int .i64 0, .int .i64 0])] ++ [(P, [.int .i64 a0, .int .i64 a1, .int .i64 b0, .int .i64 b1, .int .i64 c0, .int .i64 c1, .int .i64 d0, .int .i64 d1, .int .i64 e0, .int .i64 e1])]) W := Has.ins (l1 := [(pB, [.int .i64 0, .int .i64 0]), (pC, [.int .i64 0, .int .i64 0])]) (l2 := [] ++ [(P, [.int .i64 a0, .int .i64 a1, .int .i64 b0, .int .i64 b1, .int .i64 c0, .int .i64 c1, .int .i64 d0, .int .i64 d1, .int .i64 e0, .int .i64 e1])]) hC
                    refine hK.out _ _ (HS.out _ (hC'.tail.tail.tail)) (fun _ => ?_)
                    exact wpAnyH_cast rfl (by kernel_rfl) (by kernel_rfl) (ih ⟨none, some pB, some pC, none, some pE⟩ _ (by simp only [Option.isSome, Bool.false_eq_true, if_false, if_true]; omega) hC')
                | some pE =>
                  simp only [Option.isSome, Bool.false_eq_true, if_false, if_true] at hk
                  simp only [putp, Act.put, List.setIfInBounds_toArray, List.set_cons_zero, List.set_cons_succ]
                  refine wpAnyH_listed #[true, true, true, true, true, true, true, true, true, true, false, true, true, false, true, false, false, false, false, false] (by kernel_rfl) ?_
                  refine wpAnyH_ready (rs := [10, 13]) (by kernel_rfl) (by simp) ?_
                  refine AllReadyH.cons (o := ⟨some 5, Op.alloc 36, 0, _, _, none⟩) rfl (fun K hK => ?_) (?_)
                  · go_simp
                    have hC := hH.push [.int .i64 0, .int .i64 0] 36
                    change Has w _ (w2.alloc (.cells #[.int .i64 0, .int .i64 0] 36)) at hC
                    generalize w2.alloc (.cells #[.int .i64 0, .int .i64 0] 36) = W at *
                    generalize w2.heap.size = pA at *
                    have hC' : Has w ([(pA, [.int .i64 0, .int .i64 0]), (pB, [.int .i64 0, .int .i64 0]), (pC, [.int .i64 0, .int .i64 0]), (pE, [.int .i64 0, .int .i64 0])] ++ [(P, [.int .i64 a0, .int .i64 a1, .int .i64 b0, .int .i64 b1, .int .i64 c0, .int .i64 c1, .int .i64 d0, .int .i64 d1, .int .i64 e0, .int .i64 e1])]) W := Has.ins (l1 := []) (l2 := [(pB, [.int .i64 0, .int .i64 0]), (pC, [.int .i64 0, .int .i64 0]), (pE, [.int .i64 0, .int .i64 0])] ++ [(P, [.int .i64 a0, .int .i64 a1, .int .i64 b0, .int .i64 b1, .int .i64 c0, .int .i64 c1, .int .i64 d0, .int .i64 d1, .int .i64 e0, .int .i64 e1])]) hC
                    refine hK.out _ _ (HS.out _ (hC'.tail.tail.tail.tail)) (fun _ => ?_)
                    exact wpAnyH_cast rfl (by kernel_rfl) (by kernel_rfl) (ih ⟨some pA, some pB, some pC, none, some pE⟩ _ (by simp only [Option.isSome, Bool.false_eq_true, if_false, if_true]; omega) hC')
                  refine AllReadyH.cons (o := ⟨some 8, Op.alloc 36, 0, _, _, none⟩) rfl (fun K hK => ?_) (AllReadyH.nil)
                  · go_simp
                    have hC := hH.push [.int .i64 0, .int .i64 0] 36
                    change Has w _ (w2.alloc (.cells #[.int .i64 0, .int .i64 0] 36)) at hC
                    generalize w2.alloc (.cells #[.int .i64 0, .int .i64 0] 36) = W at *
                    generalize w2.heap.size = pD at *
                    have hC' : Has w ([(pB, [.int .i64 0, .int .i64 0]), (pC, [.int .i64 0, .int .i64 0]), (pD, [.int .i64 0, .int .i64 0]), (pE, [.int .i64 0, .int .i64 0])] ++ [(P, [.int .i64 a0, .int .i64 a1, .int .i64 b0, .int .i64 b1, .int .i64 c0, .int .i64 c1, .int .i64 d0, .int .i64 d1, .int .i64 e0, .int .i64 e1])]) W := Has.ins (l1 := [(pB, [.int .i64 0, .int .i64 0]), (pC, [.int .i64 0, .int .i64 0])]) (l2 := [(pE, [.int .i64 0, .int .i64 0])] ++ [(P, [.int .i64 a0, .int .i64 a1, .int .i64 b0, .int .i64 b1, .int .i64 c0, .int .i64 c1, .int .i64 d0, .int .i64 d1, .int .i64 e0, .int .i64 e1])]) hC
                    refine hK.out _ _ (HS.out _ (hC'.tail.tail.tail.tail)) (fun _ => ?_)
                    exact wpAnyH_cast rfl (by kernel_rfl) (by kernel_rfl) (ih ⟨none, some pB, some pC, some pD, some pE⟩ _ (by simp only [Option.isSome, Bool.false_eq_true, if_false, if_true]; omega) hC')
              | some pD =>
                cases pe with
                | none =>
                  simp only [Option.isSome, Bool.false_eq_true, if_false, if_true] at hk
                  simp only [putp, Act.put, List.setIfInBounds_toArray, List.set_cons_zero, List.set_cons_succ]
                  refine wpAnyH_listed #[true, true, true, true, true, true, true, true, true, true, false, true, true, true, false, false, false, false, false, false] (by kernel_rfl) ?_
                  refine wpAnyH_ready (rs := [10, 14]) (by kernel_rfl) (by simp) ?_
                  refine AllReadyH.cons (o := ⟨some 5, Op.alloc 36, 0, _, _, none⟩) rfl (fun K hK => ?_) (?_)
                  · go_simp
                    have hC := hH.push [.int .i64 0, .int .i64 0] 36
                    change Has w _ (w2.alloc (.cells #[.int .i64 0, .int .i64 0] 36)) at hC
                    generalize w2.alloc (.cells #[.int .i64 0, .int .i64 0] 36) = W at *
                    generalize w2.heap.size = pA at *
                    have hC' : Has w ([(pA, [.int .i64 0, .int .i64 0]), (pB, [.int .i64 0, .int .i64 0]), (pC, [.int .i64 0, .int .i64 0]), (pD, [.int .i64 0, .int .i64 0])] ++ [(P, [.int .i64 a0, .int .i64 a1, .int .i64 b0, .int .i64 b1, .int .i64 c0, .int .i64 c1, .int .i64 d0, .int .i64 d1, .int .i64 e0, .int .i64 e1])]) W := Has.ins (l1 := []) (l2 := [(pB, [.int .i64 0, .int .i64 0]), (pC, [.int .i64 0, .int .i64 0]), (pD, [.int .i64 0, .int .i64 0])] ++ [(P, [.int .i64 a0, .int .i64 a1, .int .i64 b0, .int .i64 b1, .int .i64 c0, .int .i64 c1, .int .i64 d0, .int .i64 d1, .int .i64 e0, .int .i64 e1])]) hC
                    refine hK.out _ _ (HS.out _ (hC'.tail.tail.tail.tail)) (fun _ => ?_)
                    exact wpAnyH_cast rfl (by kernel_rfl) (by kernel_rfl) (ih ⟨some pA, some pB, some pC, some pD, none⟩ _ (by simp only [Option.isSome, Bool.false_eq_true, if_false, if_true]; omega) hC')
                  refine AllReadyH.cons (o := ⟨some 9, Op.alloc 36, 0, _, _, none⟩) rfl (fun K hK => ?_) (AllReadyH.nil)
                  · go_simp
                    have hC := hH.push [.int .i64 0, .int .i64 0] 36
                    change Has w _ (w2.alloc (.cells #[.int .i64 0, .int .i64 0] 36)) at hC
                    generalize w2.alloc (.cells #[.int .i64 0, .int .i64 0] 36) = W at *
                    generalize w2.heap.size = pE at *
                    have hC' : Has w ([(pB, [.int .i64 0, .int .i64 0]), (pC, [.int .i64 0, .int .i64 0]), (pD, [.int .i64 0, .int .i64 0]), (pE, [.int .i64 0, .int .i64 0])] ++ [(P, [.int .i64 a0, .int .i64 a1, .int .i64 b0, .int .i64 b1, .int .i64 c0, .int .i64 c1, .int .i64 d0, .int .i64 d1, .int .i64 e0, .int .i64 e1])]) W := Has.ins (l1 := [(pB, [.int .i64 0, .int .i64 0]), (pC, [.int .i64 0, .int .i64 0]), (pD, [.int .i64 0, .int .i64 0])]) (l2 := [] ++ [(P, [.int .i64 a0, .int .i64 a1, .int .i64 b0, .int .i64 b1, .int .i64 c0, .int .i64 c1, .int .i64 d0, .int .i64 d1, .int .i64 e0, .int .i64 e1])]) hC
                    refine hK.out _ _ (HS.out _ (hC'.tail.tail.tail.tail)) (fun _ => ?_)
                    exact wpAnyH_cast rfl (by kernel_rfl) (by kernel_rfl) (ih ⟨none, some pB, some pC, some pD, some pE⟩ _ (by simp only [Option.isSome, Bool.false_eq_true, if_false, if_true]; omega) hC')
                | some pE =>
                  simp only [Option.isSome, Bool.false_eq_true, if_false, if_true] at hk
                  simp only [putp, Act.put, List.setIfInBounds_toArray, List.set_cons_zero, List.set_cons_succ]
                  refine wpAnyH_listed #[true, true, true, true, true, true, true, true, true, true, false, true, true, true, true, false, false, false, false, false] (by kernel_rfl) ?_
                  refine wpAnyH_ready (rs := [10]) (by kernel_rfl) (by simp) ?_
                  refine AllReadyH.cons (o := ⟨some 5, Op.alloc 36, 0, _, _, none⟩) rfl (fun K hK => ?_) (AllReadyH.nil)
                  · go_simp
                    have hC := hH.push [.int .i64 0, .int .i64 0] 36
                    change Has w _ (w2.alloc (.cells #[.int .i64 0, .int .i64 0] 36)) at hC
                    generalize w2.alloc (.cells #[.int .i64 0, .int .i64 0] 36) = W at *
                    generalize w2.heap.size = pA at *
                    have hC' : Has w ([(pA, [.int .i64 0, .int .i64 0]), (pB, [.int .i64 0, .int .i64 0]), (pC, [.int .i64 0, .int .i64 0]), (pD, [.int .i64 0, .int .i64 0]), (pE, [.int .i64 0, .int .i64 0])] ++ [(P, [.int .i64 a0, .int .i64 a1, .int .i64 b0, .int .i64 b1, .int .i64 c0, .int .i64 c1, .int .i64 d0, .int .i64 d1, .int .i64 e0, .int .i64 e1])]) W := Has.ins (l1 := []) (l2 := [(pB, [.int .i64 0, .int .i64 0]), (pC, [.int .i64 0, .int .i64 0]), (pD, [.int .i64 0, .int .i64 0]), (pE, [.int .i64 0, .int .i64 0])] ++ [(P, [.int .i64 a0, .int .i64 a1, .int .i64 b0, .int .i64 b1, .int .i64 c0, .int .i64 c1, .int .i64 d0, .int .i64 d1, .int .i64 e0, .int .i64 e1])]) hC
                    refine hK.out _ _ (HS.out _ (hC'.tail.tail.tail.tail.tail)) (fun _ => ?_)
                    exact wpAnyH_cast rfl (by kernel_rfl) (by kernel_rfl) (ih ⟨some pA, some pB, some pC, some pD, some pE⟩ _ (by simp only [Option.isSome, Bool.false_eq_true, if_false, if_true]; omega) hC')
        | some pA =>
          cases pb with
          | none =>
            cases pc with
            | none =>
              cases pd with
              | none =>
                cases pe with
                | none =>
                  simp only [Option.isSome, Bool.false_eq_true, if_false, if_true] at hk
                  simp only [putp, Act.put, List.setIfInBounds_toArray, List.set_cons_zero, List.set_cons_succ]
                  refine wpAnyH_listed #[true, true, true, true, true, true, true, true, true, true, true, false, false, false, false, false, false, false, false, false] (by kernel_rfl) ?_
                  refine wpAnyH_ready (rs := [11, 12, 13, 14]) (by kernel_rfl) (by simp) ?_
                  refine AllReadyH.cons (o := ⟨some 6, Op.alloc 36, 0, _, _, none⟩) rfl (fun K hK => ?_) (?_)
                  · go_simp
                    have hC := hH.push [.int .i64 0, .int .i64 0] 36
                    change Has w _ (w2.alloc (.cells #[.int .i64 0, .int .i64 0] 36)) at hC
                    generalize w2.alloc (.cells #[.int .i64 0, .int .i64 0] 36) = W at *
                    generalize w2.heap.size = pB at *
                    have hC' : Has w ([(pA, [.int .i64 0, .int .i64 0]), (pB, [.int .i64 0, .int .i64 0])] ++ [(P, [.int .i64 a0, .int .i64 a1, .int .i64 b0, .int .i64 b1, .int .i64 c0, .int .i64 c1, .int .i64 d0, .int .i64 d1, .int .i64 e0, .int .i64 e1])]) W := Has.ins (l1 := [(pA, [.int .i64 0, .int .i64 0])]) (l2 := [] ++ [(P, [.int .i64 a0, .int .i64 a1, .int .i64 b0, .int .i64 b1, .int .i64 c0, .int .i64 c1, .int .i64 d0, .int .i64 d1, .int .i64 e0, .int .i64 e1])]) hC
                    refine hK.out _ _ (HS.out _ (hC'.tail.tail)) (fun _ => ?_)
                    exact wpAnyH_cast rfl (by kernel_rfl) (by kernel_rfl) (ih ⟨some pA, some pB, none, none, none⟩ _ (by simp only [Option.isSome, Bool.false_eq_true, if_false, if_true]; omega) hC')
                  refine AllReadyH.cons (o := ⟨some 7, Op.alloc 36, 0, _, _, none⟩) rfl (fun K hK => ?_) (?_)
                  · go_simp
                    have hC := hH.push [.int .i64 0, .int .i64 0] 36
                    change Has w _ (w2.alloc (.cells #[.int .i64 0, .int .i64 0] 36)) at hC
                    generalize w2.alloc (.cells #[.int .i64 0, .int .i64 0] 36) = W at *
                    generalize w2.heap.size = pC at *
                    have hC' : Has w ([(pA, [.int .i64 0, .int .i64 0]), (pC, [.int .i64 0, .int .i64 0])] ++ [(P, [.int .i64 a0, .int .i64 a1, .int .i64 b0, .int .i64 b1, .int .i64 c0, .int .i64 c1, .int .i64 d0, .int .i64 d1, .int .i64 e0, .int .i64 e1])]) W := Has.ins (l1 := [(pA, [.int .i64 0, .int .i64 0])]) (l2 := [] ++ [(P, [.int .i64 a0, .int .i64 a1, .int .i64 b0, .int .i64 b1, .int .i64 c0, .int .i64 c1, .int .i64 d0, .int .i64 d1, .int .i64 e0, .int .i64 e1])]) hC
                    refine hK.out _ _ (HS.out _ (hC'.tail.tail)) (fun _ => ?_)
                    exact wpAnyH_cast rfl (by kernel_rfl) (by kernel_rfl) (ih ⟨some pA, none, some pC, none, none⟩ _ (by simp only [Option.isSome, Bool.false_eq_true, if_false, if_true]; omega) hC')
                  refine AllReadyH.cons (o := ⟨some 8, Op.alloc 36, 0, _, _, none⟩) rfl (fun K hK => ?_) (?_)
                  · go_simp
                    have hC := hH.push [.int .i64 0, .int .i64 0] 36
                    change Has w _ (w2.alloc (.cells #[.int .i64 0, .int .i64 0] 36)) at hC
                    generalize w2.alloc (.cells #[.int .i64 0, .int .i64 0] 36) = W at *
                    generalize w2.heap.size = pD at *
                    have hC' : Has w ([(pA, [.int .i64 0, .int .i64 0]), (pD, [.int .i64 0, .int .i64 0])] ++ [(P, [.int .i64 a0, .int .i64 a1, .int .i64 b0, .int .i64 b1, .int .i64 c0, .int .i64 c1, .int .i64 d0, .int .i64 d1, .int .i64 e0, .int .i64 e1])]) W := Has.ins (l1 := [(pA, [.int .i64 0, .int .i64 0])]) (l2 := [] ++ [(P, [.int .i64 a0, .int .i64 a1, .int .i64 b0, .int .i64 b1, .int .i64 c0, .int .i64 c1, .int .i64 d0, .int .i64 d1, .int .i64 e0, .int .i64 e1])]) hC
                    refine hK.out _ _ (HS.out _ (hC'.tail.tail)) (fun _ => ?_)
                    exact wpAnyH_cast rfl (by kernel_rfl) (by kernel_rfl) (ih ⟨some pA, none, none, some pD, none⟩ _ (by simp only [Option.isSome, Bool.false_eq_true, if_false, if_true]; omega) hC')
                  refine AllReadyH.cons (o := ⟨some 9, Op.alloc 36, 0, _, _, none⟩) rfl (fun K hK => ?_) (AllReadyH.nil)
                  · go_simp
                    have hC := hH.push [.int .i64 0, .int .i64 0] 36
                    change Has w _ (w2.alloc (.cells #[.int .i64 0, .int .i64 0] 36)) at hC
                    generalize w2.alloc (.cells #[.int .i64 0, .int .i64 0] 36) = W at *
                    generalize w2.heap.size = pE at *
                    have hC' : Has w ([(pA, [.int .i64 0, .int .i64 0]), (pE, [.int .i64 0, .int .i64 0])] ++ [(P, [.int .i64 a0, .int .i64 a1, .int .i64 b0, .int .i64 b1, .int .i64 c0, .int .i64 c1, .int .i64 d0, .int .i64 d1, .int .i64 e0, .int .i64 e1])]) W := Has.ins (l1 := [(pA, [.int .i64 0, .int .i64 0])]) (l2 := [] ++ [(P, [.int .i64 a0, .int .i64 a1, .int .i64 b0, .int .i64 b1, .int .i64 c0, .int .i64 c1, .int .i64 d0, .int .i64 d1, .int .i64 e0, .int .i64 e1])]) hC
                    refine hK.out _ _ (HS.out _ (hC'.tail.tail)) (fun _ => ?_)
                    exact wpAnyH_cast rfl (by kernel_rfl) (by kernel_rfl) (ih ⟨some pA, none, none, none, some pE⟩ _ (by simp only [Option.isSome, Bool.false_eq_true, if_false, if_true]; omega) hC')
                | some pE =>
                  simp only [Option.isSome, Bool.false_eq_true, if_false, if_true] at hk
                  simp only [putp, Act.put, List.setIfInBounds_toArray, List.set_cons_zero, List.set_cons_succ]
                  refine wpAnyH_listed #[true, true, true, true, true, true, true, true, true, true, true, false, false, false, true, false, false, false, false, false] (by kernel_rfl) ?_
                  refine wpAnyH_ready (rs := [11, 12, 13]) (by kernel_rfl) (by simp) ?_
                  refine AllReadyH.cons (o := ⟨some 6, Op.alloc 36, 0, _, _, none⟩) rfl (fun K hK => ?_) (?_)
                  · go_simp
                    have hC := hH.push [.int .i64 0, .int .i64 0] 36
                    change Has w _ (w2.alloc (.cells #[.int .i64 0, .int .i64 0] 36)) at hC
                    generalize w2.alloc (.cells #[.int .i64 0, .int .i64 0] 36) = W at *
                    generalize w2.heap.size = pB at *
                    have hC' : Has w ([(pA, [.int .i64 0, .int .i64 0]), (pB, [.int .i64 0, .int .i64 0]), (pE, [.int .i64 0, .int .i64 0])] ++ [(P, [.int .i64 a0, .int .i64 a1, .int .i64 b0, .int .i64 b1, .int .i64 c0, .int .i64 c1, .int .i64 d0, .int .i64 d1, .int .i64 e0, .int .i64 e1])]) W := Has.ins (l1 := [(pA, [.int .i64 0, .int .i64 0])]) (l2 := [(pE, [.int .i64 0, .int .i64 0])] ++ [(P, [.int .i64 a0, .int .i64 a1, .int .i64 b0, .int .i64 b1, .int .i64 c0, .int .i64 c1, .int .i64 d0, .int .i64 d1, .int .i64 e0, .int .i64 e1])]) hC
                    refine hK.out _ _ (HS.out _ (hC'.tail.tail.tail)) (fun _ => ?_)
                    exact wpAnyH_cast rfl (by kernel_rfl) (by kernel_rfl) (ih ⟨some pA, some pB, none, none, some pE⟩ _ (by simp only [Option.isSome, Bool.false_eq_true, if_false, if_true]; omega) hC')
                  refine AllReadyH.cons (o := ⟨some 7, Op.alloc 36, 0, _, _, none⟩) rfl (fun K hK => ?_) (?_)
                  · go_simp
                    have hC := hH.push [.int .i64 0, .int .i64 0] 36
                    change Has w _ (w2.alloc (.cells #[.int .i64 0, .int .i64 0] 36)) at hC
                    generalize w2.alloc (.cells #[.int .i64 0, .int .i64 0] 36) = W at *
                    generalize w2.heap.size = pC at *
                    have hC' : Has w ([(pA, [.int .i64 0, .int .i64 0]), (pC, [.int .i64 0, .int .i64 0]), (pE, [.int .i64 0, .int .i64 0])] ++ [(P, [.int .i64 a0, .int .i64 a1, .int .i64 b0, .int .i64 b1, .int .i64 c0, .int .i64 c1, .int .i64 d0, .int .i64 d1, .int .i64 e0, .int .i64 e1])]) W := Has.ins (l1 := [(pA, [.int .i64 0, .int .i64 0])]) (l2 := [(pE, [.int .i64 0, .int .i64 0])] ++ [(P, [.int .i64 a0, .int .i64 a1, .int .i64 b0, .int .i64 b1, .int .i64 c0, .int .i64 c1, .int .i64 d0, .int .i64 d1, .int .i64 e0, .int .i64 e1])]) hC
                    refine hK.out _ _ (HS.out _ (hC'.tail.tail.tail)) (fun _ => ?_)
                    exact wpAnyH_cast rfl (by kernel_rfl) (by kernel_rfl) (ih ⟨some pA, none, some pC, none, some pE⟩ _ (by simp only [Option.isSome, Bool.false_eq_true, if_false, if_true]; omega) hC')
                  refine AllReadyH.cons (o := ⟨some 8, Op.alloc 36, 0, _, _, none⟩) rfl (fun K hK => ?_) (AllReadyH.nil)
                  · go_simp
                    have hC := hH.push [.int .i64 0, .int .i64 0] 36
                    change Has w _ (w2.alloc (.cells #[.int .i64 0, .int .i64 0] 36)) at hC
                    generalize w2.alloc (.cells #[.int .i64 0, .int .i64 0] 36) = W at *
                    generalize w2.heap.size = pD at *
                    have hC' : Has w ([(pA, [.int .i64 0, .int .i64 0]), (pD, [.int .i64 0, .int .i64 0]), (pE, [.int .i64 0, .int .i64 0])] ++ [(P, [.int .i64 a0, .int .i64 a1, .int .i64 b0, .int .i64 b1, .int .i64 c0, .int .i64 c1, .int .i64 d0, .int .i64 d1, .int .i64 e0, .int .i64 e1])]) W := Has.ins (l1 := [(pA, [.int .i64 0, .int .i64 0])]) (l2 := [(pE, [.int .i64 0, .int .i64 0])] ++ [(P, [.int .i64 a0, .int .i64 a1, .int .i64 b0, .int .i64 b1, .int .i64 c0, .int .i64 c1, .int .i64 d0, .int .i64 d1, .int .i64 e0, .int .i64 e1])]) hC
                    refine hK.out _ _ (HS.out _ (hC'.tail.tail.tail)) (fun _ => ?_)
                    exact wpAnyH_cast rfl (by kernel_rfl) (by kernel_rfl) (ih ⟨some pA, none, none, some pD, some pE⟩ _ (by simp only [Option.isSome, Bool.false_eq_true, if_false, if_true]; omega) hC')
              | some pD =>
                cases pe with
                | none =>
                  simp only [Option.isSome, Bool.false_eq_true, if_false, if_true] at hk
                  simp only [putp, Act.put, List.setIfInBounds_toArray, List.set_cons_zero, List.set_cons_succ]
                  refine wpAnyH_listed #[true, true, true, true, true, true, true, true, true, true, true, false, false, true, false, false, false, false, false, false] (by kernel_rfl) ?_
                  refine wpAnyH_ready (rs := [11, 12, 14]) (by kernel_rfl) (by simp) ?_
                  refine AllReadyH.cons (o := ⟨some 6, Op.alloc 36, 0, _, _, none⟩) rfl (fun K hK => ?_) (?_)
                  · go_simp
                    have hC := hH.push [.int .i64 0, .int .i64 0] 36
                    change Has w _ (w2.alloc (.cells #[.int .i64 0, .int .i64 0] 36)) at hC
                    generalize w2.alloc (.cells #[.int .i64 0, .int .i64 0] 36) = W at *
                    generalize w2.heap.size = pB at *
                    have hC' : Has w ([(pA, [.int .i64 0, .int .i64 0]), (pB, [.int .i64 0, .int .i64 0]), (pD, [.int .i64 0, .int .i64 0])] ++ [(P, [.int .i64 a0, .int .i64 a1, .int .i64 b0, .int .i64 b1, .int .i64 c0, .int .i64 c1, .int .i64 d0, .int .i64 d1, .int .i64 e0, .int .i64 e1])]) W := Has.ins (l1 := [(pA, [.int .i64 0, .int .i64 0])]) (l2 := [(pD, [.int .i64 0, .int .i64 0])] ++ [(P, [.int .i64 a0, .int .i64 a1, .int .i64 b0, .int .i64 b1, .int .i64 c0, .int .i64 c1, .int .i64 d0, .int .i64 d1, .int .i64 e0, .int .i64 e1])]) hC
                    refine hK.out _ _ (HS.out _ (hC'.tail.tail.tail)) (fun _ => ?_)
                    exact wpAnyH_cast rfl (by kernel_rfl) (by kernel_rfl) (ih ⟨some pA, some pB, none, some pD, none⟩ _ (by simp only [Option.isSome, Bool.false_eq_true, if_false, if_true]; omega) hC')
                  refine AllReadyH.cons (o := ⟨some 7, Op.alloc 36, 0, _, _, none⟩) rfl (fun K hK => ?_) (?_)
                  · go_simp
                    have hC := hH.push [.int .i64 0, .int .i64 0] 36
                    change Has w _ (w2.alloc (.cells #[.int .i64 0, .int .i64 0] 36)) at hC
                    generalize w2.alloc (.cells #[.int .i64 0, .int .i64 0] 36) = W at *
                    generalize w2.heap.size = pC at *
                    have hC' : Has w ([(pA, [.int .i64 0, .int .i64 0]), (pC, [.int .i64 0, .int .i64 0]), (pD, [.int .i64 0, .int .i64 0])] ++ [(P, [.int .i64 a0, .int .i64 a1, .int .i64 b0, .int .i64 b1, .int .i64 c0, .int .i64 c1, .int .i64 d0, .int .i64 d1, .int .i64 e0, .int .i64 e1])]) W := Has.ins (l1 := [(pA, [.int .i64 0, .int .i64 0])]) (l2 := [(pD, [.int .i64 0, .int .i64 0])] ++ [(P, [.int .i64 a0, .int .i64 a1, .int .i64 b0, .int .i64 b1, .int .i64 c0, .int .i64 c1, .int .i64 d0, .int .i64 d1, .int .i64 e0, .int .i64 e1])]) hC
                    refine hK.out _ _ (HS.out _ (hC'.tail.tail.tail)) (fun _ => ?_)
                    exact wpAnyH_cast rfl (by kernel_rfl) (by kernel_rfl) (ih ⟨some pA, none, some pC, some pD, none⟩ _ (by simp only [Option.isSome, Bool.false_eq_true, if_false, if_true]; omega) hC')
                  refine AllReadyH.cons (o := ⟨some 9, Op.alloc 36, 0, _, _, none⟩) rfl (fun K hK => ?_) (AllReadyH.nil)
                  · go_simp
                    have hC := hH.push [.int .i64 0, .int .i64 0] 36
                    change Has w _ (w2.alloc (.cells #[.int .i64 0, .int .i64 0] 36)) at hC
                    generalize w2.alloc (.cells #[.int .i64 0, .int .i64 0] 36) = W at *
                    generalize w2.heap.size = pE at *
                    have hC' : Has w ([(pA, [.int .i64 0, .int .i64 0]), (pD, [.int .i64 0, .int .i64 0]), (pE, [.int .i64 0, .int .i64 0])] ++ [(P, [.int .i64 a0, .int .i64 a1, .int .i64 b0, .int .i64 b1, .int .i64 c0, .int .i64 c1, .int .i64 d0, .int .i64 d1, .int .i64 e0, .int .i64 e1])]) W := Has.ins (l1 := [(pA, [.int .i64 0, .int .i64 0]), (pD, [.int .i64 0, .int .i64 0])]) (l2 := [] ++ [(P, [.int .i64 a0, .int .i64 a1, .int .i64 b0, .int .i64 b1, .int .i64 c0, .int .i64 c1, .int .i64 d0, .int .i64 d1, .int .i64 e0, .int .i64 e1])]) hC
                    refine hK.out _ _ (HS.out _ (hC'.tail.tail.tail)) (fun _ => ?_)
                    exact wpAnyH_cast rfl (by kernel_rfl) (by kernel_rfl) (ih ⟨some pA, none, none, some pD, some pE⟩ _ (by simp only [Option.isSome, Bool.false_eq_true, if_false, if_true]; omega) hC')
                | some pE =>
                  simp only [Option.isSome, Bool.false_eq_true, if_false, if_true] at hk
                  simp only [putp, Act.put, List.setIfInBounds_toArray, List.set_cons_zero, List.set_cons_succ]
                  refine wpAnyH_listed #[true, true, true, true, true, true, true, true, true, true, true, false, false, true, true, false, false, false, false, false] (by kernel_rfl) ?_
                  refine wpAnyH_ready (rs := [11, 12]) (by kernel_rfl) (by simp) ?_
                  refine AllReadyH.cons (o := ⟨some 6, Op.alloc 36, 0, _, _, none⟩) rfl (fun K hK => ?_) (?_)
                  · go_simp
                    have hC := hH.push [.int .i64 0, .int .i64 0] 36
                    change Has w _ (w2.alloc (.cells #[.int .i64 0, .int .i64 0] 36)) at hC
                    generalize w2.alloc (.cells #[.int .i64 0, .int .i64 0] 36) = W at *
                    generalize w2.heap.size = pB at *
                    have hC' : Has w ([(pA, [.int .i64 0, .int .i64 0]), (pB, [.int .i64 0, .int .i64 0]), (pD, [.int .i64 0, .int .i64 0]), (pE, [.int .i64 0, .int .i64 0])] ++ [(P, [.int .i64 a0, .int .i64 a1, .int .i64 b0, .int .i64 b1, .int .i64 c0, .int .i64 c1, .int .i64 d0, .int .i64 d1, .int .i64 e0, .int .i64 e1])]) W := Has.ins (l1 := [(pA, [.int .i64 0, .int .i64 0])]) (l2 := [(pD, [.int .i64 0, .int .i64 0]), (pE, [.int .i64 0, .int .i64 0])] ++ [(P, [.int .i64 a0, .int .i64 a1, .int .i64 b0, .int .i64 b1, .int .i64 c0, .int .i64 c1, .int .i64 d0, .int .i64 d1, .int .i64 e0, .int .i64 e1])]) hC
                    refine hK.out _ _ (HS.out _ (hC'.tail.tail.tail.tail)) (fun _ => ?_)
                    exact wpAnyH_cast rfl (by kernel_rfl) (by kernel_rfl) (ih ⟨some pA, some pB, none, some pD, some pE⟩ _ (by simp only [Option.isSome, Bool.false_eq_true, if_false, if_true]; omega) hC')
                  refine AllReadyH.cons (o := ⟨some 7, Op.alloc 36, 0, _, _, none⟩) rfl (fun K hK => ?_) (AllReadyH.nil)
                  · go_simp
                    have hC := hH.push [.int .i64 0, .int .i64 0] 36
                    change Has w _ (w2.alloc (.cells #[.int .i64 0, .int .i64 0] 36)) at hC
                    generalize w2.alloc (.cells #[.int .i64 0, .int .i64 0] 36) = W at *
                    generalize w2.heap.size = pC at *
                    have hC' : Has w ([(pA, [.int .i64 0, .int .i64 0]), (pC, [.int .i64 0, .int .i64 0]), (pD, [.int .i64 0, .int .i64 0]), (pE, [.int .i64 0, .int .i64 0])] ++ [(P, [.int .i64 a0, .int .i64 a1, .int .i64 b0, .int .i64 b1, .int .i64 c0, .int .i64 c1, .int .i64 d0, .int .i64 d1, .int .i64 e0, .int .i64 e1])]) W := Has.ins (l1 := [(pA, [.int .i64 0, .int .i64 0])]) (l2 := [(pD, [.int .i64 0, .int .i64 0]), (pE, [.int .i64 0, .int .i64 0])] ++ [(P, [.int .i64 a0, .int .i64 a1, .int .i64 b0, .int .i64 b1, .int .i64 c0, .int .i64 c1, .int .i64 d0, .int .i64 d1, .int .i64 e0, .int .i64 e1])]) hC
                    refine hK.out _ _ (HS.out _ (hC'.tail.tail.tail.tail)) (fun _ => ?_)
                    exact wpAnyH_cast rfl (by kernel_rfl) (by kernel_rfl) (ih ⟨some pA, none, some pC, some pD, some pE⟩ _ (by simp only [Option.isSome, Bool.false_eq_true, if_false, if_true]; omega) hC')
            | some pC =>
              cases pd with
              | none =>
                cases pe with
                | none =>
                  simp only [Option.isSome, Bool.false_eq_true, if_false, if_true] at hk
                  simp only [putp, Act.put, List.setIfInBounds_toArray, List.set_cons_zero, List.set_cons_succ]
                  refine wpAnyH_listed #[true, true, true, true, true, true, true, true, true, true, true, false, true, false, false, false, false, false, false, false] (by kernel_rfl) ?_
                  refine wpAnyH_ready (rs := [11, 13, 14]) (by kernel_rfl) (by simp) ?_
                  refine AllReadyH.cons (o := ⟨some 6, Op.alloc 36, 0, _, _, none⟩) rfl (fun K hK => ?_) (?_)
                  · go_simp
                    have hC := hH.push [.int .i64 0, .int .i64 0] 36
                    change Has w _ (w2.alloc (.cells #[.int .i64 0, .int .i64 0] 36)) at hC
                    generalize w2.alloc (.cells #[.int .i64 0, .int .i64 0] 36) = W at *
                    generalize w2.heap.size = pB at *
                    have hC' : Has w ([(pA, [.int .i64 0, .int .i64 0]), (pB, [.int .i64 0, .int .i64 0]), (pC, [.int .i64 0, .int .i64 0])] ++ [(P, [.int .i64 a0, .int .i64 a1, .int .i64 b0, .int .i64 b1, .int .i64 c0, .int .i64 c1, .int .i64 d0, .int .i64 d1, .int .i64 e0, .int .i64 e1])]) W := Has.ins (l1 := [(pA, [.int .i64 0, .int .i64 0])]) (l2 := [(pC, [.int .i64 0, .int .i64 0])] ++ [(P, [.int .i64 a0, .int .i64 a1, .int .i64 b0, .int .i64 b1, .int .i64 c0, .int .i64 c1, .int .i64 d0, .int .i64 d1, .int .i64 e0, .int .i64 e1])]) hC
                    refine hK.out _ _ (HS.out _ (hC'.tail.tail.tail)) (fun _ => ?_)
                    exact wpAnyH_cast rfl (by kernel_rfl) (by kernel_rfl) (ih ⟨some pA, some pB, some pC, none, none⟩ _ (by simp only [Option.isSome, Bool.false_eq_true, if_false, if_true]; omega) hC')
                  refine AllReadyH.cons (o := ⟨some 8, Op.alloc 36, 0, _, _, none⟩) rfl (fun K hK => ?_) (?_)
                  · go_simp
                    have hC := hH.push [.int .i64 0, .int .i64 0] 36
                    change Has w _ (w2.alloc (.cells #[.int .i64 0, .int .i64 0] 36)) at hC
                    generalize w2.alloc (.cells #[.int .i64 0, .int .i64 0] 36) = W at *
                    generalize w2.heap.size = pD at *
                    have hC' : Has w ([(pA, [.int .i64 0, .int .i64 0]), (pC, [.int .i64 0, .int .i64 0]), (pD, [.int .i64 0, .int .i64 0])] ++ [(P, [.int .i64 a0, .int .i64 a1, .int .i64 b0, .int .i64 b1, .int .i64 c0, .int .i64 c1, .int .i64 d0, .int .i64 d1, .int .i64 e0, .int .i64 e1])]) W := Has.ins (l1 := [(pA, [.int .i64 0, .int .i64 0]), (pC, [.int .i64 0, .int .i64 0])]) (l2 := [] ++ [(P, [.int .i64 a0, .int .i64 a1, .int .i64 b0, .int .i64 b1, .int .i64 c0, .int .i64 c1, .int .i64 d0, .int .i64 d1, .int .i64 e0, .int .i64 e1])]) hC
                    refine hK.out _ _ (HS.out _ (hC'.tail.tail.tail)) (fun _ => ?_)
                    exact wpAnyH_cast rfl (by kernel_rfl) (by kernel_rfl) (ih ⟨some pA, none, some pC, some pD, none⟩ _ (by simp only [Option.isSome, Bool.false_eq_true, if_false, if_true]; omega) hC')
                  refine AllReadyH.cons (o := ⟨some 9, Op.alloc 36, 0, _, _, none⟩) rfl (fun K hK => ?_) (AllReadyH.nil)
                  · go_simp
                    have hC := hH.push [.int .i64 0, .int .i64 0] 36
                    change Has w _ (w2.alloc (.cells #[.int .i64 0, .int .i64 0] 36)) at hC
                    generalize w2.alloc (.cells #[.int .i64 0, .int .i64 0] 36) = W at *
                    generalize w2.heap.size = pE at *
                    have hC' : Has w ([(pA, [.int .i64 0, .int .i64 0]), (pC, [.int .i64 0, .int .i64 0]), (pE, [.int .i64 0, .int .i64 0])] ++ [(P, [.int .i64 a0, .int .i64 a1, .int .i64 b0, .int .i64 b1, .int .i64 c0, .int .i64 c1, .int .i64 d0, .int .i64 d1, .int .i64 e0, .int .i64 e1])]) W := Has.ins (l1 := [(pA, [.int .i64 0, .int .i64 0]), (pC, [.int .i64 0, .int .i64 0])]) (l2 := [] ++ [(P, [.int .i64 a0, .int .i64 a1, .int .i64 b0, .int .i64 b1, .int .i64 c0, .int .i64 c1, .int .i64 d0, .int .i64 d1, .int .i64 e0, .int .i64 e1])]) hC
                    refine hK.out _ _ (HS.out _ (hC'.tail.tail.tail)) (fun _ => ?_)
                    exact wpAnyH_cast rfl (by kernel_rfl) (by kernel_rfl) (ih ⟨some pA, none, some pC, none, some pE⟩ _ (by simp only [Option.isSome, Bool.false_eq_true, if_false, if_true]; omega) hC')
                | some pE =>
                  simp only [Option.isSome, Bool.false_eq_true, if_false, if_true] at hk
                  simp only [putp, Act.put, List.setIfInBounds_toArray, List.set_cons_zero, List.set_cons_succ]
                  refine wpAnyH_listed #[true, true, true, true, true, true, true, true, true, true, true, false, true, false, true, false, false, false, false, false] (by kernel_rfl) ?_
                  refine wpAnyH_ready (rs := [11, 13]) (by kernel_rfl) (by simp) ?_
                  refine AllReadyH.cons (o := ⟨some 6, Op.alloc 36, 0, _, _, none⟩) rfl (fun K hK => ?_) (?_)
                  · go_simp
                    have hC := hH.push [.int .i64 0, .int .i64 0] 36
                    change Has w _ (w2.alloc (.cells #[.int .i64 0, .int .i64 0] 36)) at hC
                    generalize w2.alloc (.cells #[.int .i64 0, .int .i64 0] 36) = W at *
                    generalize w2.heap.size = pB at *
                    have hC' : Has w ([(pA, [.int .i64 0, .int .i64 0]), (pB, [.int .i64 0, .int .i64 0]), (pC, [.int .i64 0, .int .i64 0]), (pE, [.int .i64 0, .int .i64 0])] ++ [(P, [.int .i64 a0, .int .i64 a1, .int .i64 b0, .int .i64 b1, .int .i64 c0, .int .i64 c1, .int .i64 d0, .int .i64 d1, .int .i64 e0, .int .i64 e1])]) W := Has.ins (l1 := [(pA, [.int .i64 0, .int .i64 0])]) (l2 := [(pC, [.int .i64 0, .int .i64 0]), (pE, [.int .i64 0, .int .i64 0])] ++ [(P, [.int .i64 a0, .int .i64 a1, .int .i64 b0, .int .i64 b1, .int .i64 c0, .int .i64 c1, .int .i64 d0, .int .i64 d1, .int .i64 e0, .int .i64 e1])]) hC
                    refine hK.out _ _ (HS.out _ (hC'.tail.tail.tail.tail)) (fun _ => ?_)
                    exact wpAnyH_cast rfl (by kernel_rfl) (by kernel_rfl) (ih ⟨some pA, some pB, some pC, none, some pE⟩ _ (by simp only [Option.isSome, Bool.false_eq_true, if_false, if_true]; omega) hC')
                  refine AllReadyH.cons (o := ⟨some 8, Op.alloc 36, 0, _, _, none⟩) rfl (fun K hK => ?_) (AllReadyH.nil)
                  · go_simp
                    have hC := hH.push [.int .i64 0, .int .i64 0] 36
                    change Has w _ (w2.alloc (.cells #[.int .i64 0, .int .i64 0] 36)) at hC
                    generalize w2.alloc (.cells #[.int .i64 0, .int .i64 0] 36) = W at *
                    generalize w2.heap.size = pD at *
                    have hC' : Has w ([(pA, [.int .i64 0, .int .i64 0]), (pC, [.int .i64 0, .int .i64 0]), (pD, [.int .i64 0, .int .i64 0]), (pE, [.int .i64 0, .int .i64 0])] ++ [(P, [.int .i64 a0, .int .i64 a1, .int .i64 b0, .int .i64 b1, .int .i64 c0, .int .i64 c1, .int .i64 d0, .int .i64 d1, .int .i64 e0, .int .i64 e1])]) W := Has.ins (l1 := [(pA, [.int .i64 0, .int .i64 0]), (pC, [.int .i64 0, .int .i64 0])]) (l2 := [(pE, [.int .i64 0, .int .i64 0])] ++ [(P, [.int .i64 a0, .int .i64 a1, .int .i64 b0, .int .i64 b1, .int .i64 c0, .int .i64 c1, .int .i64 d0, .int .i64 d1, .int .i64 e0, .int .i64 e1])]) hC
                    refine hK.out _ _ (HS.out _ (hC'.tail.tail.tail.tail)) (fun _ => ?_)
                    exact wpAnyH_cast rfl (by kernel_rfl) (by kernel_rfl) (ih ⟨some pA, none, some pC, some pD, some pE⟩ _ (by simp only [Option.isSome, Bool.false_eq_true, if_false, if_true]; omega) hC')
              | some pD =>
                cases pe with
                | none =>
                  simp only [Option.isSome, Bool.false_eq_true, if_false, if_true] at hk
                  simp only [putp, Act.put, List.setIfInBounds_toArray, List.set_cons_zero, List.set_cons_succ]
                  refine wpAnyH_listed #[true, true, true, true, true, true, true, true, true, true, true, false, true, true, false, false, false, false, false, false] (by kernel_rfl) ?_
                  refine wpAnyH_ready (rs := [11, 14]) (by kernel_rfl) (by simp) ?_
                  refine AllReadyH.cons (o := ⟨some 6, Op.alloc 36, 0, _, _, none⟩) rfl (fun K hK => ?_) (?_)
                  · go_simp
                    have hC := hH.push [.int .i64 0, .int .i64 0] 36
                    change Has w _ (w2.alloc (.cells #[.int .i64 0, .int .i64 0] 36)) at hC
                    generalize w2.alloc (.cells #[.int .i64 0, .int .i64 0] 36) = W at *
                    generalize w2.heap.size = pB at *
                    have hC' : Has w ([(pA, [.int .i64 0, .int .i64 0]), (pB, [.int .i64 0, .int .i64 0]), (pC, [.int .i64 0, .int .i64 0]), (pD, [.int .i64 0, .int .i64 0])] ++ [(P, [.int .i64 a0, .int .i64 a1, .int .i64 b0, .int .i64 b1, .int .i64 c0, .int .i64 c1, .int .i64 d0, .int .i64 d1, .int .i64 e0, .int .i64 e1])]) W := Has.ins (l1 := [(pA, [.int .i64 0, .int .i64 0])]) (l2 := [(pC, [.int .i64 0, .int .i64 0]), (pD, [.int .i64 0, .int .i64 0])] ++ [(P, [.int .i64 a0, .int .i64 a1, .int .i64 b0, .int .i64 b1, .int .i64 c0, .int .i64 c1, .int .i64 d0, .int .i64 d1, .int .i64 e0, .int .i64 e1])]) hC
                    refine hK.out _ _ (HS.out _ (hC'.tail.tail.tail.tail)) (fun _ => ?_)
                    exact wpAnyH_cast rfl (by kernel_rfl) (by kernel_rfl) (ih ⟨some pA, some pB, some pC, some pD, none⟩ _ (by simp only [Option.isSome, Bool.false_eq_true, if_false, if_true]; omega) hC')
                  refine AllReadyH.cons (o := ⟨some 9, Op.alloc 36, 0, _, _, none⟩) rfl (fun K hK => ?_) (AllReadyH.nil)
                  · go_simp
                    have hC := hH.push [.int .i64 0, .int .i64 0] 36
                    change Has w _ (w2.alloc (.cells #[.int .i64 0, .int .i64 0] 36)) at hC
                    generalize w2.alloc (.cells #[.int .i64 0, .int .i64 0] 36) = W at *
                    generalize w2.heap.size = pE at *
                    have hC' : Has w ([(pA, [.int .i64 0, .int .i64 0]), (pC, [.int .i64 0, .int .i64 0]), (pD, [.int .i64 0, .int .i64 0]), (pE, [.int .i64 0, .int .i64 0])] ++ [(P, [.int .i64 a0, .int .i64 a1, .int .i64 b0, .int .i64 b1, .int .i64 c0, .int .i64 c1, .int .i64 d0, .int .i64 d1, .int .i64 e0, .int .i64 e1])]) W := Has.ins (l1 := [(pA, [.int .i64 0, .int .i64 0]), (pC, [.int .i64 0, .int .i64 0]), (pD, [.int .i64 0, .int .i64 0])]) (l2 := [] ++ [(P, [.int .i64 a0, .int .i64 a1, .int .i64 b0, .int .i64 b1, .int .i64 c0, .int .i64 c1, .int .i64 d0, .int .i64 d1, .int .i64 e0, .int .i64 e1])]) hC
                    refine hK.out _ _ (HS.out _ (hC'.tail.tail.tail.tail)) (fun _ => ?_)
                    exact wpAnyH_cast rfl (by kernel_rfl) (by kernel_rfl) (ih ⟨some pA, none, some pC, some pD, some pE⟩ _ (by simp only [Option.isSome, Bool.false_eq_true, if_false, if_true]; omega) hC')
                | some pE =>
                  simp only [Option.isSome, Bool.false_eq_true, if_false, if_true] at hk
                  simp only [putp, Act.put, List.setIfInBounds_toArray, List.set_cons_zero, List.set_cons_succ]
                  refine wpAnyH_listed #[true, true, true, true, true, true, true, true, true, true, true, false, true, true, true, false, false, false, false, false] (by kernel_rfl) ?_
                  refine wpAnyH_ready (rs := [11]) (by kernel_rfl) (by simp) ?_
                  refine AllReadyH.cons (o := ⟨some 6, Op.alloc 36, 0, _, _, none⟩) rfl (fun K hK => ?_) (AllReadyH.nil)
                  · go_simp
                    have hC := hH.push [.int .i64 0, .int .i64 0] 36
                    change Has w _ (w2.alloc (.cells #[.int .i64 0, .int .i64 0] 36)) at hC
                    generalize w2.alloc (.cells #[.int .i64 0, .int .i64 0] 36) = W at *
                    generalize w2.heap.size = pB at *
                    have hC' : Has w ([(pA, [.int .i64 0, .int .i64 0]), (pB, [.int .i64 0, .int .i64 0]), (pC, [.int .i64 0, .int .i64 0]), (pD, [.int .i64 0, .int .i64 0]), (pE, [.int .i64 0, .int .i64 0])] ++ [(P, [.int .i64 a0, .int .i64 a1, .int .i64 b0, .int .i64 b1, .int .i64 c0, .int .i64 c1, .int .i64 d0, .int .i64 d1, .int .i64 e0, .int .i64 e1])]) W := Has.ins (l1 := [(pA, [.int .i64 0, .int .i64 0])]) (l2 := [(pC, [.int .i64 0, .int .i64 0]), (pD, [.int .i64 0, .int .i64 0]), (pE, [.int .i64 0, .int .i64 0])] ++ [(P, [.int .i64 a0, .int .i64 a1, .int .i64 b0, .int .i64 b1, .int .i64 c0, .int .i64 c1, .int .i64 d0, .int .i64 d1, .int .i64 e0, .int .i64 e1])]) hC
                    refine hK.out _ _ (HS.out _ (hC'.tail.tail.tail.tail.tail)) (fun _ => ?_)
                    exact wpAnyH_cast rfl (by kernel_rfl) (by kernel_rfl) (ih ⟨some pA, some pB, some pC, some pD, some pE⟩ _ (by simp only [Option.isSome, Bool.false_eq_true, if_false, if_true]; omega) hC')
          | some pB =>
            cases pc with
            | none =>
              cases pd with
              | none =>
                cases pe with
                | none =>
                  simp only [Option.isSome, Bool.false_eq_true, if_false, if_true] at hk
                  simp only [putp, Act.put, List.setIfInBounds_toArray, List.set_cons_zero, List.set_cons_succ]
                  refine wpAnyH_listed #[true, true, true, true, true, true, true, true, true, true, true, true, false, false, false, false, false, false, false, false] (by kernel_rfl) ?_
                  refine wpAnyH_ready (rs := [12, 13, 14]) (by kernel_rfl) (by simp) ?_
                  refine AllReadyH.cons (o := ⟨some 7, Op.alloc 36, 0, _, _, none⟩) rfl (fun K hK => ?_) (?_)
                  · go_simp
                    have hC := hH.push [.int .i64 0, .int .i64 0] 36
                    change Has w _ (w2.alloc (.cells #[.int .i64 0, .int .i64 0] 36)) at hC
                    generalize w2.alloc (.cells #[.int .i64 0, .int .i64 0] 36) = W at *
                    generalize w2.heap.size = pC at *
                    have hC' : Has w ([(pA, [.int .i64 0, .int .i64 0]), (pB, [.int .i64 0, .int .i64 0]), (pC, [.int .i64 0, .int .i64 0])] ++ [(P, [.int .i64 a0, .int .i64 a1, .int .i64 b0, .int .i64 b1, .int .i64 c0, .int .i64 c1, .int .i64 d0, .int .i64 d1, .int .i64 e0, .int .i64 e1])]) W := Has.ins (l1 := [(pA, [.int .i64 0, .int .i64 0]), (pB, [.int .i64 0, .int .i64 0])]) (l2 := [] ++ [(P, [.int .i64 a0, .int .i64 a1, .int .i64 b0, .int .i64 b1, .int .i64 c0, .int .i64 c1, .int .i64 d0, .int .i64 d1, .int .i64 e0, .int .i64 e1])]) hC
                    refine hK.out _ _ (HS.out _ (hC'.tail.tail.tail)) (fun _ => ?_)
                    exact wpAnyH_cast rfl (by kernel_rfl) (by kernel_rfl) (ih ⟨some pA, some pB, some pC, none, none⟩ _ (by simp only [Option.isSome, Bool.false_eq_true, if_false, if_true]; omega) hC')
                  refine AllReadyH.cons (o := ⟨some 8, Op.alloc 36, 0, _, _, none⟩) rfl (fun K hK => ?_) (?_)
                  · go_simp
                    have hC := hH.push [.int .i64 0, .int .i64 0] 36
                    change Has w _ (w2.alloc (.cells #[.int .i64 0, .int .i64 0] 36)) at hC
                    generalize w2.alloc (.cells #[.int .i64 0, .int .i64 0] 36) = W at *
                    generalize w2.heap.size = pD at *
                    have hC' : Has w ([(pA, [.int .i64 0, .int .i64 0]), (pB, [.int .i64 0, .int .i64 0]), (pD, [.int .i64 0, .int .i64 0])] ++ [(P, [.int .i64 a0, .int .i64 a1, .int .i64 b0, .int .i64 b1, .int .i64 c0, .int .i64 c1, .int .i64 d0, .int .i64 d1, .int .i64 e0, .int .i64 e1])]) W := Has.ins (l1 := [(pA, [.int .i64 0, .int .i64 0]), (pB, [.int .i64 0, .int .i64 0])]) (l2 := [] ++ [(P, [.int .i64 a0, .int .i64 a1, .int .i64 b0, .int .i64 b1, .int .i64 c0, .int .i64 c1, .int .i64 d0, .int .i64 d1, .int .i64 e0, .int .i64 e1])]) hC
                    refine hK.out _ _ (HS.out _ (hC'.tail.tail.tail)) (fun _ => ?_)
                    exact wpAnyH_cast rfl (by kernel_rfl) (by kernel_rfl) (ih ⟨some pA, some pB, none, some pD, none⟩ _ (by simp only [Option.isSome, Bool.false_eq_true, if_false, if_true]; omega) hC')
                  refine AllReadyH.cons (o := ⟨some 9, Op.alloc 36, 0, _, _, none⟩) rfl (fun K hK => ?_) (AllReadyH.nil)
                  · go_simp
                    have hC := hH.push [.int .i64 0, .int .i64 0] 36
                    change Has w _ (w2.alloc (.cells #[.int .i64 0, .int .i64 0] 36)) at hC
                    generalize w2.alloc (.cells #[.int .i64 0, .int .i64 0] 36) = W at *
                    generalize w2.heap.size = pE at *
                    have hC' : Has w ([(pA, [.int .i64 0, .int .i64 0]), (pB, [.int .i64 0, .int .i64 0]), (pE, [.int .i64 0, .int .i64 0])] ++ [(P, [.int .i64 a0, .int .i64 a1, .int .i64 b0, .int .i64 b1, .int .i64 c0, .int .i64 c1, .int .i64 d0, .int .i64 d1, .int .i64 e0, .int .i64 e1])]) W := Has.ins (l1 := [(pA, [.int .i64 0, .int .i64 0]), (pB, [.int .i64 0, .int .i64 0])]) (l2 := [] ++ [(P, [.int .i64 a0, .int .i64 a1, .int .i64 b0, .int .i64 b1, .int .i64 c0, .int .i64 c1, .int .i64 d0, .int .i64 d1, .int .i64 e0, .int .i64 e1])]) hC
                    refine hK.out _ _ (HS.out _ (hC'.tail.tail.tail)) (fun _ => ?_)
                    exact wpAnyH_cast rfl (by kernel_rfl) (by kernel_rfl) (ih ⟨some pA, some pB, none, none, some pE⟩ _ (by simp only [Option.isSome, Bool.false_eq_true, if_false, if_true]; omega) hC')
                | some pE =>
                  simp only [Option.isSome, Bool.false_eq_true, if_false, if_true] at hk
                  simp only [putp, Act.put, List.setIfInBounds_toArray, List.set_cons_zero, List.set_cons_succ]
                  refine wpAnyH_listed #[true, true, true, true, true, true, true, true, true, true, true, true, false, false, true, false, false, false, false, false] (by kernel_rfl) ?_
                  refine wpAnyH_ready (rs := [12, 13]) (by kernel_rfl) (by simp) ?_
                  refine AllReadyH.cons (o := ⟨some 7, Op.alloc 36, 0, _, _, none⟩) rfl (fun K hK => ?_) (?_)
                  · go_simp
                    have hC := hH.push [.int .i64 0, .int .i64 0] 36
                    change Has w _ (w2.alloc (.cells #[.int .i64 0, .int .i64 0] 36)) at hC
                    generalize w2.alloc (.cells #[.int .i64 0, .int .i64 0] 36) = W at *
                    generalize w2.heap.size = pC at *
                    have hC' : Has w ([(pA, [.int .i64 0, .int .i64 0]), (pB, [.int .i64 0, .int .i64 0]), (pC, [.int .i64 0, .int .i64 0]), (pE, [.int .i64 0, .int .i64 0])] ++ [(P, [.int .i64 a0, .int .i64 a1, .int .i64 b0, .int .i64 b1, .int .i64 c0, .int .i64 c1, .int .i64 d0, .int .i64 d1, .int .i64 e0, .int .i64 e1])]) W := Has.ins (l1 := [(pA, [.int .i64 0, .int .i64 0]), (pB, [.int .i64 0, .int .i64 0])]) (l2 := [(pE, [.int .i64 0, .int .i64 0])] ++ [(P, [.int .i64 a0, .int .i64 a1, .int .i64 b0, .int .i64 b1, .int .i64 c0, .int .i64 c1, .int .i64 d0, .int .i64 d1, .int .i64 e0, .int .i64 e1])]) hC
                    refine hK.out _ _ (HS.out _ (hC'.tail.tail.tail.tail)) (fun _ => ?_)
                    exact wpAnyH_cast rfl (by kernel_rfl) (by kernel_rfl) (ih ⟨some pA, some pB, some pC, none, some pE⟩ _ (by simp only [Option.isSome, Bool.false_eq_true, if_false, if_true]; omega) hC')
                  refine AllReadyH.cons (o := ⟨some 8, Op.alloc 36, 0, _, _, none⟩) rfl (fun K hK => ?_) (AllReadyH.nil)
                  · go_simp
                    have hC := hH.push [.int .i64 0, .int .i64 0] 36
                    change Has w _ (w2.alloc (.cells #[.int .i64 0, .int .i64 0] 36)) at hC
                    generalize w2.alloc (.cells #[.int .i64 0, .int .i64 0] 36) = W at *
                    generalize w2.heap.size = pD at *
                    have hC' : Has w ([(pA, [.int .i64 0, .int .i64 0]), (pB, [.int .i64 0, .int .i64 0]), (pD, [.int .i64 0, .int .i64 0]), (pE, [.int .i64 0, .int .i64 0])] ++ [(P, [.int .i64 a0, .int .i64 a1, .int .i64 b0, .int .i64 b1, .int .i64 c0, .int .i64 c1, .int .i64 d0, .int .i64 d1, .int .i64 e0, .int .i64 e1])]) W := Has.ins (l1 := [(pA, [.int .i64 0, .int .i64 0]), (pB, [.int .i64 0, .int .i64 0])]) (l2 := [(pE, [.int .i64 0, .int .i64 0])] ++ [(P, [.int .i64 a0, .int .i64 a1, .int .i64 b0, .int .i64 b1, .int .i64 c0, .int .i64 c1, .int .i64 d0, .int .i64 d1, .int .i64 e0, .int .i64 e1])]) hC
                    refine hK.out _ _ (HS.out _ (hC'.tail.tail.tail.tail)) (fun _ => ?_)
                    exact wpAnyH_cast rfl (by kernel_rfl) (by kernel_rfl) (ih ⟨some pA, some pB, none, some pD, some pE⟩ _ (by simp only [Option.isSome, Bool.false_eq_true, if_false, if_true]; omega) hC')
              | some pD =>
                cases pe with
                | none =>
                  simp only [Option.isSome, Bool.false_eq_true, if_false, if_true] at hk
                  simp only [putp, Act.put, List.setIfInBounds_toArray, List.set_cons_zero, List.set_cons_succ]
                  refine wpAnyH_listed #[true, true, true, true, true, true, true, true, true, true, true, true, false, true, false, false, false, false, false, false] (by kernel_rfl) ?_
                  refine wpAnyH_ready (rs := [12, 14]) (by kernel_rfl) (by simp) ?_
                  refine AllReadyH.cons (o := ⟨some 7, Op.alloc 36, 0, _, _, none⟩) rfl (fun K hK => ?_) (?_)
                  · go_simp
                    have hC := hH.push [.int .i64 0, .int .i64 0] 36
                    change Has w _ (w2.alloc (.cells #[.int .i64 0, .int .i64 0] 36)) at hC
                    generalize w2.alloc (.cells #[.int .i64 0, .int .i64 0] 36) = W at *
                    generalize w2.heap.size = pC at *
                    have hC' : Has w ([(pA, [.int .i64 0, .int .i64 0]), (pB, [.int .i64 0, .int .i64 0]), (pC, [.int .i64 0, .int .i64 0]), (pD, [.int .i64 0, .int .i64 0])] ++ [(P, [.int .i64 a0, .int .i64 a1, .int .i64 b0, .int .i64 b1, .int .i64 c0, .int .i64 c1, .int .i64 d0, .int .i64 d1, .int .i64 e0, .int .i64 e1])]) W := Has.ins (l1 := [(pA, [.int .i64 0, .int .i64 0]), (pB, [.int .i64 0, .int .i64 0])]) (l2 := [(pD, [.int .i64 0, .int .i64 0])] ++ [(P, [.int .i64 a0, .int .i64 a1, .int .i64 b0, .int .i64 b1, .int .i64 c0, .int .i64 c1, .int .i64 d0, .int .i64 d1, .int .i64 e0, .int .i64 e1])]) hC
                    refine hK.out _ _ (HS.out _ (hC'.tail.tail.tail.tail)) (fun _ => ?_)
                    exact wpAnyH_cast rfl (by kernel_rfl) (by kernel_rfl) (ih ⟨some pA, some pB, some pC, some pD, none⟩ _ (by simp only [Option.isSome, Bool.false_eq_true, if_false, if_true]; omega) hC')
                  refine AllReadyH.cons (o := ⟨some 9, Op.alloc 36, 0, _, _, none⟩) rfl (fun K hK => ?_) (AllReadyH.nil)
                  · go_simp
                    have hC := hH.push [.int .i64 0, .int .i64 0] 36
                    change Has w _ (w2.alloc (.cells #[.int .i64 0, .int .i64 0] 36)) at hC
                    generalize w2.alloc (.cells #[.int .i64 0, .int .i64 0] 36) = W at *
                    generalize w2.heap.size = pE at *
                    have hC' : Has w ([(pA, [.int .i64 0, .int .i64 0]), (pB, [.int .i64 0, .int .i64 0]), (pD, [.int .i64 0, .int .i64 0]), (pE, [.int .i64 0, .int .i64 0])] ++ [(P, [.int .i64 a0, .int .i64 a1, .int .i64 b0, .int .i64 b1, .int .i64 c0, .int .i64 c1, .int .i64 d0, .int .i64 d1, .int .i64 e0, .int .i64 e1])]) W := Has.ins (l1 := [(pA, [.int .i64 0, .int .i64 0]), (pB, [.int .i64 0, .int .i64 0]), (pD, [.int .i64 0, .int .i64 0])]) (l2 := [] ++ [(P, [.int .i64 a0, .int .i64 a1, .int .i64 b0, .int .i64 b1, .int .i64 c0, .int .i64 c1, .int .i64 d0, .int .i64 d1, .int .i64 e0, .int .i64 e1])]) hC
                    refine hK.out _ _ (HS.out _ (hC'.tail.tail.tail.tail)) (fun _ => ?_)
                    exact wpAnyH_cast rfl (by kernel_rfl) (by kernel_rfl) (ih ⟨some pA, some pB, none, some pD, some pE⟩ _ (by simp only [Option.isSome, Bool.false_eq_true, if_false, if_true]; omega) hC')
                | some pE =>
                  simp only [Option.isSome, Bool.false_eq_true, if_false, if_true] at hk
                  simp only [putp, Act.put, List.setIfInBounds_toArray, List.set_cons_zero, List.set_cons_succ]
                  refine wpAnyH_listed #[true, true, true, true, true, true, true, true, true, true, true, true, false, true, true, false, false, false, false, false] (by kernel_rfl) ?_
                  refine wpAnyH_ready (rs := [12]) (by kernel_rfl) (by simp) ?_
                  refine AllReadyH.cons (o := ⟨some 7, Op.alloc 36, 0, _, _, none⟩) rfl (fun K hK => ?_) (AllReadyH.nil)
                  · go_simp
                    have hC := hH.push [.int .i64 0, .int .i64 0] 36
                    change Has w _ (w2.alloc (.cells #[.int .i64 0, .int .i64 0] 36)) at hC
                    generalize w2.alloc (.cells #[.int .i64 0, .int .i64 0] 36) = W at *
                    generalize w2.heap.size = pC at *
                    have hC' : Has w ([(pA, [.int .i64 0, .int .i64 0]), (pB, [.int .i64 0, .int .i64 0]), (pC, [.int .i64 0, .int .i64 0]), (pD, [.int .i64 0, .int .i64 0]), (pE, [.int .i64 0, .int .i64 0])] ++ [(P, [.int .i64 a0, .int .i64 a1, .int .i64 b0, .int .i64 b1, .int .i64 c0, .int .i64 c1, .int .i64 d0, .int .i64 d1, .int .i64 e0, .int .i64 e1])]) W := Has.ins (l1 := [(pA, [.int .i64 0, .int .i64 0]), (pB, [.int .i64 0, .int .i64 0])]) (l2 := [(pD, [.int .i64 0, .int .i64 0]), (pE, [.int .i64 0, .int .i64 0])] ++ [(P, [.int .i64 a0, .int .i64 a1, .int .i64 b0, .int .i64 b1, .int .i64 c0, .int .i64 c1, .int .i64 d0, .int .i64 d1, .int .i64 e0, .int .i64 e1])]) hC
                    refine hK.out _ _ (HS.out _ (hC'.tail.tail.tail.tail.tail)) (fun _ => ?_)
                    exact wpAnyH_cast rfl (by kernel_rfl) (by kernel_rfl) (ih ⟨some pA, some pB, some pC, some pD, some pE⟩ _ (by simp only [Option.isSome, Bool.false_eq_true, if_false, if_true]; omega) hC')
            | some pC =>
              cases pd with
              | none =>
                cases pe with
                | none =>
                  simp only [Option.isSome, Bool.false_eq_true, if_false, if_true] at hk
                  simp only [putp, Act.put, List.setIfInBounds_toArray, List.set_cons_zero, List.set_cons_succ]
                  refine wpAnyH_listed #[true, true, true, true, true, true, true, true, true, true, true, true, true, false, false, false, false, false, false, false] (by kernel_rfl) ?_
                  refine wpAnyH_ready (rs := [13, 14]) (by kernel_rfl) (by simp) ?_
                  refine AllReadyH.cons (o := ⟨some 8, Op.alloc 36, 0, _, _, none⟩) rfl (fun K hK => ?_) (?_)
                  · go_simp
                    have hC := hH.push [.int .i64 0, .int .i64 0] 36
                    change Has w _ (w2.alloc (.cells #[.int .i64 0, .int .i64 0] 36)) at hC
                    generalize w2.alloc (.cells #[.int .i64 0, .int .i64 0] 36) = W at *
                    generalize w2.heap.size = pD at *
                    have hC' : Has w ([(pA, [.int .i64 0, .int .i64 0]), (pB, [.int .i64 0, .int .i64 0]), (pC, [.int .i64 0, .int .i64 0]), (pD, [.int .i64 0, .int .i64 0])] ++ [(P, [.int .i64 a0, .int .i64 a1, .int .i64 b0, .int .i64 b1, .int .i64 c0, .int .i64 c1, .int .i64 d0, .int .i64 d1, .int .i64 e0, .int .i64 e1])]) W := Has.ins (l1 := [(pA, [.int .i64 0, .int .i64 0]), (pB, [.int .i64 0, .int .i64 0]), (pC, [.int .i64 0, .int .i64 0])]) (l2 := [] ++ [(P, [.int .i64 a0, .int .i64 a1, .int .i64 b0, .int .i64 b1, .int .i64 c0, .int .i64 c1, .int .i64 d0, .int .i64 d1, .int .i64 e0, .int .i64 e1])]) hC
                    refine hK.out _ _ (HS.out _ (hC'.tail.tail.tail.tail)) (fun _ => ?_)
                    exact wpAnyH_cast rfl (by kernel_rfl) (by kernel_rfl) (ih ⟨some pA, some pB, some pC, some pD, none⟩ _ (by simp only [Option.isSome, Bool.false_eq_true, if_false, if_true]; omega) hC')
                  refine AllReadyH.cons (o := ⟨some 9, Op.alloc 36, 0, _, _, none⟩) rfl (fun K hK => ?_) (AllReadyH.nil)
                  · go_simp
                    have hC := hH.push [.int .i64 0, .int .i64 0] 36
                    change Has w _ (w2.alloc (.cells #[.int .i64 0, .int .i64 0] 36)) at hC
                    generalize w2.alloc (.cells #[.int .i64 0, .int .i64 0] 36) = W at *
                    generalize w2.heap.size = pE at *
                    have hC' : Has w ([(pA, [.int .i64 0, .int .i64 0]), (pB, [.int .i64 0, .int .i64 0]), (pC, [.int .i64 0, .int .i64 0]), (pE, [.int .i64 0, .int .i64 0])] ++ [(P, [.int .i64 a0, .int .i64 a1, .int .i64 b0, .int .i64 b1, .int .i64 c0, .int .i64 c1, .int .i64 d0, .int .i64 d1, .int .i64 e0, .int .i64 e1])]) W := Has.ins (l1 := [(pA, [.int .i64 0, .int .i64 0]), (pB, [.int .i64 0, .int .i64 0]), (pC, [.int .i64 0, .int .i64 0])]) (l2 := [] ++ [(P, [.int .i64 a0, .int .i64 a1, .int .i64 b0, .int .i64 b1, .int .i64 c0, .int .i64 c1, .int .i64 d0, .int .i64 d1, .int .i64 e0, .int .i64 e1])]) hC
                    refine hK.out _ _ (HS.out _ (hC'.tail.tail.tail.tail)) (fun _ => ?_)
                    exact wpAnyH_cast rfl (by kernel_rfl) (by kernel_rfl) (ih ⟨some pA, some pB, some pC, none, some pE⟩ _ (by simp only [Option.isSome, Bool.false_eq_true, if_false, if_true]; omega) hC')
                | some pE =>
                  simp only [Option.isSome, Bool.false_eq_true, if_false, if_true] at hk
                  simp only [putp, Act.put, List.setIfInBounds_toArray, List.set_cons_zero, List.set_cons_succ]
                  refine wpAnyH_listed #[true, true, true, true, true, true, true, true, true, true, true, true, true, false, true, false, false, false, false, false] (by kernel_rfl) ?_
                  refine wpAnyH_ready (rs := [13]) (by kernel_rfl) (by simp) ?_
                  refine AllReadyH.cons (o := ⟨some 8, Op.alloc 36, 0, _, _, none⟩) rfl (fun K hK => ?_) (AllReadyH.nil)
                  · go_simp
                    have hC := hH.push [.int .i64 0, .int .i64 0] 36
                    change Has w _ (w2.alloc (.cells #[.int .i64 0, .int .i64 0] 36)) at hC
                    generalize w2.alloc (.cells #[.int .i64 0, .int .i64 0] 36) = W at *
                    generalize w2.heap.size = pD at *
                    have hC' : Has w ([(pA, [.int .i64 0, .int .i64 0]), (pB, [.int .i64 0, .int .i64 0]), (pC, [.int .i64 0, .int .i64 0]), (pD, [.int .i64 0, .int .i64 0]), (pE, [.int .i64 0, .int .i64 0])] ++ [(P, [.int .i64 a0, .int .i64 a1, .int .i64 b0, .int .i64 b1, .int .i64 c0, .int .i64 c1, .int .i64 d0, .int .i64 d1, .int .i64 e0, .int .i64 e1])]) W := Has.ins (l1 := [(pA, [.int .i64 0, .int .i64 0]), (pB, [.int .i64 0, .int .i64 0]), (pC, [.int .i64 0, .int .i64 0])]) (l2 := [(pE, [.int .i64 0, .int .i64 0])] ++ [(P, [.int .i64 a0, .int .i64 a1, .int .i64 b0, .int .i64 b1, .int .i64 c0, .int .i64 c1, .int .i64 d0, .int .i64 d1, .int .i64 e0, .int .i64 e1])]) hC
                    refine hK.out _ _ (HS.out _ (hC'.tail.tail.tail.tail.tail)) (fun _ => ?_)
                    exact wpAnyH_cast rfl (by kernel_rfl) (by kernel_rfl) (ih ⟨some pA, some pB, some pC, some pD, some pE⟩ _ (by simp only [Option.isSome, Bool.false_eq_true, if_false, if_true]; omega) hC')
              | some pD =>
                cases pe with
                | none =>
                  simp only [Option.isSome, Bool.false_eq_true, if_false, if_true] at hk
                  simp only [putp, Act.put, List.setIfInBounds_toArray, List.set_cons_zero, List.set_cons_succ]
                  refine wpAnyH_listed #[true, true, true, true, true, true, true, true, true, true, true, true, true, true, false, false, false, false, false, false] (by kernel_rfl) ?_
                  refine wpAnyH_ready (rs := [14]) (by kernel_rfl) (by simp) ?_
                  refine AllReadyH.cons (o := ⟨some 9, Op.alloc 36, 0, _, _, none⟩) rfl (fun K hK => ?_) (AllReadyH.nil)
                  · go_simp
                    have hC := hH.push [.int .i64 0, .int .i64 0] 36
                    change Has w _ (w2.alloc (.cells #[.int .i64 0, .int .i64 0] 36)) at hC
                    generalize w2.alloc (.cells #[.int .i64 0, .int .i64 0] 36) = W at *
                    generalize w2.heap.size = pE at *
                    have hC' : Has w ([(pA, [.int .i64 0, .int .i64 0]), (pB, [.int .i64 0, .int .i64 0]), (pC, [.int .i64 0, .int .i64 0]), (pD, [.int .i64 0, .int .i64 0]), (pE, [.int .i64 0, .int .i64 0])] ++ [(P, [.int .i64 a0, .int .i64 a1, .int .i64 b0, .int .i64 b1, .int .i64 c0, .int .i64 c1, .int .i64 d0, .int .i64 d1, .int .i64 e0, .int .i64 e1])]) W := Has.ins (l1 := [(pA, [.int .i64 0, .int .i64 0]), (pB, [.int .i64 0, .int .i64 0]), (pC, [.int .i64 0, .int .i64 0]), (pD, [.int .i64 0, .int .i64 0])]) (l2 := [] ++ [(P, [.int .i64 a0, .int .i64 a1, .int .i64 b0, .int .i64 b1, .int .i64 c0, .int .i64 c1, .int .i64 d0, .int .i64 d1, .int .i64 e0, .int .i64 e1])]) hC
                    refine hK.out _ _ (HS.out _ (hC'.tail.tail.tail.tail.tail)) (fun _ => ?_)
                    exact wpAnyH_cast rfl (by kernel_rfl) (by kernel_rfl) (ih ⟨some pA, some pB, some pC, some pD, some pE⟩ _ (by simp only [Option.isSome, Bool.false_eq_true, if_false, if_true]; omega) hC')
                | some pE =>
                  exact absurd hk (by simp)
      rintro ⟨pa, pb, pc, pd, pe⟩ w2 hk hH
      obtain ⟨pA, pB, pC, pD, pE, rfl, rfl, rfl, rfl, rfl⟩ : ∃ pA pB pC pD pE, pa = some pA ∧ pb = some pB ∧ pc = some pC ∧ pd = some pD ∧ pe = some pE := by
        cases pa <;> (try (exfalso; simp only [Option.isSome, Bool.false_eq_true, if_false, if_true] at hk; omega))
        cases pb <;> (try (exfalso; simp only [Option.isSome, Bool.false_eq_true, if_false, if_true] at hk; omega))
        cases pc <;> (try (exfalso; simp only [Option.isSome, Bool.false_eq_true, if_false, if_true] at hk; omega))
        cases pd <;> (try (exfalso; simp only [Option.isSome, Bool.false_eq_true, if_false, if_true] at hk; omega))
        cases pe <;> (try (exfalso; simp only [Option.isSome, Bool.false_eq_true, if_false, if_true] at hk; omega))
        exact ⟨_, _, _, _, _, rfl, rfl, rfl, rfl, rfl⟩
      simp only [putp, Act.put, List.setIfInBounds_toArray, List.set_cons_zero, List.set_cons_succ]
      have XA := hH
      change Has w ([(pA, [.int .i64 0, .int .i64 0]), (pB, [.int .i64 0, .int .i64 0]), (pC, [.int .i64 0, .int .i64 0]), (pD, [.int .i64 0, .int .i64 0]), (pE, [.int .i64 0, .int .i64 0])] ++ [(P, [.int .i64 a0, .int .i64 a1, .int .i64 b0, .int .i64 b1, .int .i64 c0, .int .i64 c1, .int .i64 d0, .int .i64 d1, .int .i64 e0, .int .i64 e1])]) w2 at XA
      clear hH hk
      refine wpAnyH_listed #[true, true, true, true, true, true, true, true, true, true, true, true, true, true, true, false, false, false, false, false] (by kernel_rfl) ?_
      refine wpAnyH_ready (rs := [15]) (by kernel_rfl) (by simp) ?_
      refine AllReadyH.cons (o := ⟨none, Op.store 36 (Operand.tmp 5) (Operand.tmp 31), 0, _, _, none⟩) rfl (fun K hK => ?_) AllReadyH.nil
      have k0 := XA.fact (.head _) (i := 0) rfl
      have k1 := XA.fact (.head _) (i := 1) rfl
      have f0 := XA.free (.head _) (i := 0) rfl
      have f1 := XA.free (.head _) (i := 1) rfl
      go_simp
      have XF : Has w ((pA, [.int .i64 0, .int .i64 0]) :: ([] ++ [(pB, [.int .i64 0, .int .i64 0]), (pC, [.int .i64 0, .int .i64 0]), (pD, [.int .i64 0, .int .i64 0]), (pE, [.int .i64 0, .int .i64 0]), (P, [.int .i64 a0, .int .i64 a1, .int .i64 b0, .int .i64 b1, .int .i64 c0, .int .i64 c1, .int .i64 d0, .int .i64 d1, .int .i64 e0, .int .i64 e1])])) w2 := Has.front (p := (pA, [.int .i64 0, .int .i64 0])) (l1 := []) (l2 := [(pB, [.int .i64 0, .int .i64 0]), (pC, [.int .i64 0, .int .i64 0]), (pD, [.int .i64 0, .int .i64 0]), (pE, [.int .i64 0, .int .i64 0]), (P, [.int .i64 a0, .int .i64 a1, .int .i64 b0, .int .i64 b1, .int .i64 c0, .int .i64 c1, .int .i64 d0, .int .i64 d1, .int .i64 e0, .int .i64 e1])]) XA
      have XB0 : Has w [(pA, [.int .i64 a0, .int .i64 a1]), (pB, [.int .i64 0, .int .i64 0]), (pC, [.int .i64 0, .int .i64 0]), (pD, [.int .i64 0, .int .i64 0]), (pE, [.int .i64 0, .int .i64 0]), (P, [.int .i64 a0, .int .i64 a1, .int .i64 b0, .int .i64 b1, .int .i64 c0, .int .i64 c1, .int .i64 d0, .int .i64 d1, .int .i64 e0, .int .i64 e1])] (World.setCell (World.setCell w2 ⟨pA, 0, none⟩ (.int .i64 a0)) ⟨pA, 1, none⟩ (.int .i64 a1)) := Has.ins (l1 := []) (l2 := [(pB, [.int .i64 0, .int .i64 0]), (pC, [.int .i64 0, .int .i64 0]), (pD, [.int .i64 0, .int .i64 0]), (pE, [.int .i64 0, .int .i64 0]), (P, [.int .i64 a0, .int .i64 a1, .int .i64 b0, .int .i64 b1, .int .i64 c0, .int .i64 c1, .int .i64 d0, .int .i64 d1, .int .i64 e0, .int .i64 e1])]) (XF.set2 (.int .i64 a0) (.int .i64 a1))
      generalize (World.setCell (World.setCell w2 ⟨pA, 0, none⟩ (.int .i64 a0)) ⟨pA, 1, none⟩ (.int .i64 a1)) = v0 at *
      clear k0 k1 f0 f1 XF XA
      clear hHeld
      refine hK.out _ _ (HS.out _ XB0.tail.tail.tail.tail.tail) (fun hHeld => ?_)
      clear hK K
      try simp only [List.setIfInBounds_toArray, List.set_cons_zero, List.set_cons_succ]
      refine wpAnyH_listed #[true, true, true, true, true, true, true, true, true, true, true, true, true, true, true, true, false, false, false, false] (by kernel_rfl) ?_
      refine wpAnyH_ready (rs := [16]) (by kernel_rfl) (by simp) ?_
      refine AllReadyH.cons (o := ⟨none, Op.store 36 (Operand.tmp 6) (Operand.tmp 33), 0, _, _, none⟩) rfl (fun K hK => ?_) AllReadyH.nil
      have k0 := XB0.tail.fact (.head _) (i := 0) rfl
      have k1 := XB0.tail.fact (.head _) (i := 1) rfl
      have f0 := XB0.tail.free (.head _) (i := 0) rfl
      have f1 := XB0.tail.free (.head _) (i := 1) rfl
      go_simp
      have XF : Has w ((pB, [.int .i64 0, .int .i64 0]) :: ([(pA, [.int .i64 a0, .int .i64 a1])] ++ [(pC, [.int .i64 0, .int .i64 0]), (pD, [.int .i64 0, .int .i64 0]), (pE, [.int .i64 0, .int .i64 0]), (P, [.int .i64 a0, .int .i64 a1, .int .i64 b0, .int .i64 b1, .int .i64 c0, .int .i64 c1, .int .i64 d0, .int .i64 d1, .int .i64 e0, .int .i64 e1])])) v0 := Has.front (p := (pB, [.int .i64 0, .int .i64 0])) (l1 := [(pA, [.int .i64 a0, .int .i64 a1])]) (l2 := [(pC, [.int .i64 0, .int .i64 0]), (pD, [.int .i64 0, .int .i64 0]), (pE, [.int .i64 0, .int .i64 0]), (P, [.int .i64 a0, .int .i64 a1, .int .i64 b0, .int .i64 b1, .int .i64 c0, .int .i64 c1, .int .i64 d0, .int .i64 d1, .int .i64 e0, .int .i64 e1])]) XB0
      have XB1 : Has w [(pA, [.int .i64 a0, .int .i64 a1]), (pB, [.int .i64 b0, .int .i64 b1]), (pC, [.int .i64 0, .int .i64 0]), (pD, [.int .i64 0, .int .i64 0]), (pE, [.int .i64 0, .int .i64 0]), (P, [.int .i64 a0, .int .i64 a1, .int .i64 b0, .int .i64 b1, .int .i64 c0, .int .i64 c1, .int .i64 d0, .int .i64 d1, .int .i64 e0, .int .i64 e1])] (World.setCell (World.setCell v0 ⟨pB, 0, none⟩ (.int .i64 b0)) ⟨pB, 1, none⟩ (.int .i64 b1)) := Has.ins (l1 := [(pA, [.int .i64 a0, .int .i64 a1])]) (l2 := [(pC, [.int .i64 0, .int .i64 0]), (pD, [.int .i64 0, .int .i64 0]), (pE, [.int .i64 0, .int .i64 0]), (P, [.int .i64 a0, .int .i64 a1, .int .i64 b0, .int .i64 b1, .int .i64 c0, .int .i64 c1, .int .i64 d0, .int .i64 d1, .int .i64 e0, .int .i64 e1])]) (XF.set2 (.int .i64 b0) (.int .i64 b1))
      generalize (World.setCell (World.setCell v0 ⟨pB, 0, none⟩ (.int .i64 b0)) ⟨pB, 1, none⟩ (.int .i64 b1)) = v1 at *
      clear k0 k1 f0 f1 XF XB0
      clear hHeld
      refine hK.out _ _ (HS.out _ XB1.tail.tail.tail.tail.tail) (fun hHeld => ?_)
      clear hK K
      try simp only [List.setIfInBounds_toArray, List.set_cons_zero, List.set_cons_succ]
      refine wpAnyH_listed #[true, true, true, true, true, true, true, true, true, true, true, true, true, true, true, true, true, false, false, false] (by kernel_rfl) ?_
      refine wpAnyH_ready (rs := [17]) (by kernel_rfl) (by simp) ?_
      refine AllReadyH.cons (o := ⟨none, Op.store 36 (Operand.tmp 7) (Operand.tmp 35), 0, _, _, none⟩) rfl (fun K hK => ?_) AllReadyH.nil
      have k0 := XB1.tail.tail.fact (.head _) (i := 0) rfl
      have k1 := XB1.tail.tail.fact (.head _) (i := 1) rfl
      have f0 := XB1.tail.tail.free (.head _) (i := 0) rfl
      have f1 := XB1.tail.tail.free (.head _) (i := 1) rfl
      go_simp
      have XF : Has w ((pC, [.int .i64 0, .int .i64 0]) :: ([(pA, [.int .i64 a0, .int .i64 a1]), (pB, [.int .i64 b0, .int .i64 b1])] ++ [(pD, [.int .i64 0, .int .i64 0]), (pE, [.int .i64 0, .int .i64 0]), (P, [.int .i64 a0, .int .i64 a1, .int .i64 b0, .int .i64 b1, .int .i64 c0, .int .i64 c1, .int .i64 d0, .int .i64 d1, .int .i64 e0, .int .i64 e1])])) v1 := Has.front (p := (pC, [.int .i64 0, .int .i64 0])) (l1 := [(pA, [.int .i64 a0, .int .i64 a1]), (pB, [.int .i64 b0, .int .i64 b1])]) (l2 := [(pD, [.int .i64 0, .int .i64 0]), (pE, [.int .i64 0, .int .i64 0]), (P, [.int .i64 a0, .int .i64 a1, .int .i64 b0, .int .i64 b1, .int .i64 c0, .int .i64 c1, .int .i64 d0, .int .i64 d1, .int .i64 e0, .int .i64 e1])]) XB1
      have XB2 : Has w [(pA, [.int .i64 a0, .int .i64 a1]), (pB, [.int .i64 b0, .int .i64 b1]), (pC, [.int .i64 c0, .int .i64 c1]), (pD, [.int .i64 0, .int .i64 0]), (pE, [.int .i64 0, .int .i64 0]), (P, [.int .i64 a0, .int .i64 a1, .int .i64 b0, .int .i64 b1, .int .i64 c0, .int .i64 c1, .int .i64 d0, .int .i64 d1, .int .i64 e0, .int .i64 e1])] (World.setCell (World.setCell v1 ⟨pC, 0, none⟩ (.int .i64 c0)) ⟨pC, 1, none⟩ (.int .i64 c1)) := Has.ins (l1 := [(pA, [.int .i64 a0, .int .i64 a1]), (pB, [.int .i64 b0, .int .i64 b1])]) (l2 := [(pD, [.int .i64 0, .int .i64 0]), (pE, [.int .i64 0, .int .i64 0]), (P, [.int .i64 a0, .int .i64 a1, .int .i64 b0, .int .i64 b1, .int .i64 c0, .int .i64 c1, .int .i64 d0, .int .i64 d1, .int .i64 e0, .int .i64 e1])]) (XF.set2 (.int .i64 c0) (.int .i64 c1))
      generalize (World.setCell (World.setCell v1 ⟨pC, 0, none⟩ (.int .i64 c0)) ⟨pC, 1, none⟩ (.int .i64 c1)) = v2 at *
      clear k0 k1 f0 f1 XF XB1
      clear hHeld
      refine hK.out _ _ (HS.out _ XB2.tail.tail.tail.tail.tail) (fun hHeld => ?_)
      clear hK K
      try simp only [List.setIfInBounds_toArray, List.set_cons_zero, List.set_cons_succ]
      refine wpAnyH_listed #[true, true, true, true, true, true, true, true, true, true, true, true, true, true, true, true, true, true, false, false] (by kernel_rfl) ?_
      refine wpAnyH_ready (rs := [18]) (by kernel_rfl) (by simp) ?_
      refine AllReadyH.cons (o := ⟨none, Op.store 36 (Operand.tmp 8) (Operand.tmp 37), 0, _, _, none⟩) rfl (fun K hK => ?_) AllReadyH.nil
      have k0 := XB2.tail.tail.tail.fact (.head _) (i := 0) rfl
      have k1 := XB2.tail.tail.tail.fact (.head _) (i := 1) rfl
      have f0 := XB2.tail.tail.tail.free (.head _) (i := 0) rfl
      have f1 := XB2.tail.tail.tail.free (.head _) (i := 1) rfl
      go_simp
      have XF : Has w ((pD, [.int .i64 0, .int .i64 0]) :: ([(pA, [.int .i64 a0, .int .i64 a1]), (pB, [.int .i64 b0, .int .i64 b1]), (pC, [.int .i64 c0, .int .i64 c1])] ++ [(pE, [.int .i64 0, .int .i64 0]), (P, [.int .i64 a0, .int .i64 a1, .int .i64 b0, .int .i64 b1, .int .i64 c0, .int .i64 c1, .int .i64 d0, .int .i64 d1, .int .i64 e0, .int .i64 e1])])) v2 := Has.front (p := (pD, [.int .i64 0, .int .i64 0])) (l1 := [(pA, [.int .i64 a0, .int .i64 a1]), (pB, [.int .i64 b0, .int .i64 b1]), (pC, [.int .i64 c0, .int .i64 c1])]) (l2 := [(pE, [.int .i64 0, .int .i64 0]), (P, [.int .i64 a0, .int .i64 a1, .int .i64 b0, .int .i64 b1, .int .i64 c0, .int .i64 c1, .int .i64 d0, .int .i64 d1, .int .i64 e0, .int .i64 e1])]) XB2
      have XB3 : Has w [(pA, [.int .i64 a0, .int .i64 a1]), (pB, [.int .i64 b0, .int .i64 b1]), (pC, [.int .i64 c0, .int .i64 c1]), (pD, [.int .i64 d0, .int .i64 d1]), (pE, [.int .i64 0, .int .i64 0]), (P, [.int .i64 a0, .int .i64 a1, .int .i64 b0, .int .i64 b1, .int .i64 c0, .int .i64 c1, .int .i64 d0, .int .i64 d1, .int .i64 e0, .int .i64 e1])] (World.setCell (World.setCell v2 ⟨pD, 0, none⟩ (.int .i64 d0)) ⟨pD, 1, none⟩ (.int .i64 d1)) := Has.ins (l1 := [(pA, [.int .i64 a0, .int .i64 a1]), (pB, [.int .i64 b0, .int .i64 b1]), (pC, [.int .i64 c0, .int .i64 c1])]) (l2 := [(pE, [.int .i64 0, .int .i64 0]), (P, [.int .i64 a0, .int .i64 a1, .int .i64 b0, .int .i64 b1, .int .i64 c0, .int .i64 c1, .int .i64 d0, .int .i64 d1, .int .i64 e0, .int .i64 e1])]) (XF.set2 (.int .i64 d0) (.int .i64 d1))
      generalize (World.setCell (World.setCell v2 ⟨pD, 0, none⟩ (.int .i64 d0)) ⟨pD, 1, none⟩ (.int .i64 d1)) = v3 at *
      clear k0 k1 f0 f1 XF XB2
      clear hHeld
      refine hK.out _ _ (HS.out _ XB3.tail.tail.tail.tail.tail) (fun hHeld => ?_)
      clear hK K
      try simp only [List.setIfInBounds_toArray, List.set_cons_zero, List.set_cons_succ]
      refine wpAnyH_listed #[true, true, true, true, true, true, true, true, true, true, true, true, true, true, true, true, true, true, true, false] (by kernel_rfl) ?_
      refine wpAnyH_ready (rs := [19]) (by kernel_rfl) (by simp) ?_
      refine AllReadyH.cons (o := ⟨none, Op.store 36 (Operand.tmp 9) (Operand.tmp 39), 0, _, _, none⟩) rfl (fun K hK => ?_) AllReadyH.nil
      have k0 := XB3.tail.tail.tail.tail.fact (.head _) (i := 0) rfl
      have k1 := XB3.tail.tail.tail.tail.fact (.head _) (i := 1) rfl
      have f0 := XB3.tail.tail.tail.tail.free (.head _) (i := 0) rfl
      have f1 := XB3.tail.tail.tail.tail.free (.head _) (i := 1) rfl
      go_simp
      have XF : Has w ((pE, [.int .i64 0, .int .i64 0]) :: ([(pA, [.int .i64 a0, .int .i64 a1]), (pB, [.int .i64 b0, .int .i64 b1]), (pC, [.int .i64 c0, .int .i64 c1]), (pD, [.int .i64 d0, .int .i64 d1])] ++ [(P, [.int .i64 a0, .int .i64 a1, .int .i64 b0, .int .i64 b1, .int .i64 c0, .int .i64 c1, .int .i64 d0, .int .i64 d1, .int .i64 e0, .int .i64 e1])])) v3 := Has.front (p := (pE, [.int .i64 0, .int .i64 0])) (l1 := [(pA, [.int .i64 a0, .int .i64 a1]), (pB, [.int .i64 b0, .int .i64 b1]), (pC, [.int .i64 c0, .int .i64 c1]), (pD, [.int .i64 d0, .int .i64 d1])]) (l2 := [(P, [.int .i64 a0, .int .i64 a1, .int .i64 b0, .int .i64 b1, .int .i64 c0, .int .i64 c1, .int .i64 d0, .int .i64 d1, .int .i64 e0, .int .i64 e1])]) XB3
      have XB4 : Has w [(pA, [.int .i64 a0, .int .i64 a1]), (pB, [.int .i64 b0, .int .i64 b1]), (pC, [.int .i64 c0, .int .i64 c1]), (pD, [.int .i64 d0, .int .i64 d1]), (pE, [.int .i64 e0, .int .i64 e1]), (P, [.int .i64 a0, .int .i64 a1, .int .i64 b0, .int .i64 b1, .int .i64 c0, .int .i64 c1, .int .i64 d0, .int .i64 d1, .int .i64 e0, .int .i64 e1])] (World.setCell (World.setCell v3 ⟨pE, 0, none⟩ (.int .i64 e0)) ⟨pE, 1, none⟩ (.int .i64 e1)) := Has.ins (l1 := [(pA, [.int .i64 a0, .int .i64 a1]), (pB, [.int .i64 b0, .int .i64 b1]), (pC, [.int .i64 c0, .int .i64 c1]), (pD, [.int .i64 d0, .int .i64 d1])]) (l2 := [(P, [.int .i64 a0, .int .i64 a1, .int .i64 b0, .int .i64 b1, .int .i64 c0, .int .i64 c1, .int .i64 d0, .int .i64 d1, .int .i64 e0, .int .i64 e1])]) (XF.set2 (.int .i64 e0) (.int .i64 e1))
      generalize (World.setCell (World.setCell v3 ⟨pE, 0, none⟩ (.int .i64 e0)) ⟨pE, 1, none⟩ (.int .i64 e1)) = v4 at *
      clear k0 k1 f0 f1 XF XB3
      clear hHeld
      refine hK.out _ _ (HS.out _ XB4.tail.tail.tail.tail.tail) (fun hHeld => ?_)
      clear hK K
      try simp only [List.setIfInBounds_toArray, List.set_cons_zero, List.set_cons_succ]
      refine wpAnyH_listed #[true, true, true, true, true, true, true, true, true, true, true, true, true, true, true, true, true, true, true, true] (by kernel_rfl) ?_
      refine wpAnyH_done (by kernel_rfl) ?_ _
      try clear hHeld
      clear HS
      have q0 := XB4.fact (.head _) (i := 0) rfl
      have q1 := XB4.fact (.head _) (i := 1) rfl
      have q2 := XB4.tail.fact (.head _) (i := 0) rfl
      have q3 := XB4.tail.fact (.head _) (i := 1) rfl
      have q4 := XB4.tail.tail.fact (.head _) (i := 0) rfl
      have q5 := XB4.tail.tail.fact (.head _) (i := 1) rfl
      have q6 := XB4.tail.tail.tail.fact (.head _) (i := 0) rfl
      have q7 := XB4.tail.tail.tail.fact (.head _) (i := 1) rfl
      have q8 := XB4.tail.tail.tail.tail.fact (.head _) (i := 0) rfl
      have q9 := XB4.tail.tail.tail.tail.fact (.head _) (i := 1) rfl
      go_wp2_with fail
      refine (calls_two XB4 (v29 a0 a1 b0 b1 c0 c1 d0 d1 _ i HFF.out.a1)).mono ?_
      rintro e z1 ⟨rfl, Z1, -⟩
      clear XB4 q0 q1 q2 q3 q4 q5 q6 q7 q8 q9
      have q0 := Z1.fact (.head _) (i := 0) rfl
      have q1 := Z1.fact (.head _) (i := 1) rfl
      have q2 := Z1.tail.fact (.head _) (i := 0) rfl
      have q3 := Z1.tail.fact (.head _) (i := 1) rfl
      have q4 := Z1.tail.tail.fact (.head _) (i := 0) rfl
      have q5 := Z1.tail.tail.fact (.head _) (i := 1) rfl
      have q6 := Z1.tail.tail.tail.fact (.head _) (i := 0) rfl
      have q7 := Z1.tail.tail.tail.fact (.head _) (i := 1) rfl
      have q8 := Z1.tail.tail.tail.tail.fact (.head _) (i := 0) rfl
      have q9 := Z1.tail.tail.tail.tail.fact (.head _) (i := 1) rfl
      go_wp2_with fail
      refine (calls_two Z1 (v29 a0 a1 b0 b1 c0 c1 a0 a1 _ true HFF.out.a2)).mono ?_
      rintro e z2 ⟨rfl, Z2, -⟩
      clear Z1 q0 q1 q2 q3 q4 q5 q6 q7 q8 q9
      have q0 := Z2.fact (.head _) (i := 0) rfl
      have q1 := Z2.fact (.head _) (i := 1) rfl
      have q2 := Z2.tail.fact (.head _) (i := 0) rfl
      have q3 := Z2.tail.fact (.head _) (i := 1) rfl
      have q4 := Z2.tail.tail.fact (.head _) (i := 0) rfl
      have q5 := Z2.tail.tail.fact (.head _) (i := 1) rfl
      have q6 := Z2.tail.tail.tail.fact (.head _) (i := 0) rfl
      have q7 := Z2.tail.tail.tail.fact (.head _) (i := 1) rfl
      have q8 := Z2.tail.tail.tail.tail.fact (.head _) (i := 0) rfl
      have q9 := Z2.tail.tail.tail.tail.fact (.head _) (i := 1) rfl
      go_wp2_with fail
      refine (calls_two Z2 (v29 a0 a1 b0 b1 c0 c1 b0 b1 _ true HFF.out.a3)).mono ?_
      rintro e z3 ⟨rfl, Z3, -⟩
      clear Z2 q0 q1 q2 q3 q4 q5 q6 q7 q8 q9
      have q0 := Z3.fact (.head _) (i := 0) rfl
      have q1 := Z3.fact (.head _) (i := 1) rfl
      have q2 := Z3.tail.fact (.head _) (i := 0) rfl
      have q3 := Z3.tail.fact (.head _) (i := 1) rfl
      have q4 := Z3.tail.tail.fact (.head _) (i := 0) rfl
      have q5 := Z3.tail.tail.fact (.head _) (i := 1) rfl
      have q6 := Z3.tail.tail.tail.fact (.head _) (i := 0) rfl
      have q7 := Z3.tail.tail.tail.fact (.head _) (i := 1) rfl
      have q8 := Z3.tail.tail.tail.tail.fact (.head _) (i := 0) rfl
      have q9 := Z3.tail.tail.tail.tail.fact (.head _) (i := 1) rfl
      go_wp2_with fail
      refine (calls_two Z3 (v29 a0 a1 b0 b1 c0 c1 c0 c1 _ true HFF.out.a4)).mono ?_
      rintro e z4 ⟨rfl, Z4, -⟩
      clear Z3 q0 q1 q2 q3 q4 q5 q6 q7 q8 q9
      have q0 := Z4.fact (.head _) (i := 0) rfl
      have q1 := Z4.fact (.head _) (i := 1) rfl
      have q2 := Z4.tail.fact (.head _) (i := 0) rfl
      have q3 := Z4.tail.fact (.head _) (i := 1) rfl
      have q4 := Z4.tail.tail.fact (.head _) (i := 0) rfl
      have q5 := Z4.tail.tail.fact (.head _) (i := 1) rfl
      have q6 := Z4.tail.tail.tail.fact (.head _) (i := 0) rfl
      have q7 := Z4.tail.tail.tail.fact (.head _) (i := 1) rfl
      have q8 := Z4.tail.tail.tail.tail.fact (.head _) (i := 0) rfl
      have q9 := Z4.tail.tail.tail.tail.fact (.head _) (i := 1) rfl
      go_wp2_with fail
      refine (calls_two Z4 (v29 b0 b1 c0 c1 a0 a1 d0 d1 _ i HFF.out.a5)).mono ?_
      rintro e z5 ⟨rfl, Z5, -⟩
      clear Z4 q0 q1 q2 q3 q4 q5 q6 q7 q8 q9
      have q0 := Z5.fact (.head _) (i := 0) rfl
      have q1 := Z5.fact (.head _) (i := 1) rfl
      have q2 := Z5.tail.fact (.head _) (i := 0) rfl
      have q3 := Z5.tail.fact (.head _) (i := 1) rfl
      have q4 := Z5.tail.tail.fact (.head _) (i := 0) rfl
      have q5 := Z5.tail.tail.fact (.head _) (i := 1) rfl
      have q6 := Z5.tail.tail.tail.fact (.head _) (i := 0) rfl
      have q7 := Z5.tail.tail.tail.fact (.head _) (i := 1) rfl
      have q8 := Z5.tail.tail.tail.tail.fact (.head _) (i := 0) rfl
      have q9 := Z5.tail.tail.tail.tail.fact (.head _) (i := 1) rfl
      go_wp2_with fail
      refine (calls_two Z5 (v29 c0 c1 b0 b1 a0 a1 d0 d1 _ i HFF.out.a6)).mono ?_
      rintro e z6 ⟨rfl, Z6, -⟩
      clear Z5 q0 q1 q2 q3 q4 q5 q6 q7 q8 q9
      have q0 := Z6.fact (.head _) (i := 0) rfl
      have q1 := Z6.fact (.head _) (i := 1) rfl
      have q2 := Z6.tail.fact (.head _) (i := 0) rfl
      have q3 := Z6.tail.fact (.head _) (i := 1) rfl
      have q4 := Z6.tail.tail.fact (.head _) (i := 0) rfl
      have q5 := Z6.tail.tail.fact (.head _) (i := 1) rfl
      have q6 := Z6.tail.tail.tail.fact (.head _) (i := 0) rfl
      have q7 := Z6.tail.tail.tail.fact (.head _) (i := 1) rfl
      have q8 := Z6.tail.tail.tail.tail.fact (.head _) (i := 0) rfl
      have q9 := Z6.tail.tail.tail.tail.fact (.head _) (i := 1) rfl
      go_wp2_with fail
      refine (calls_two Z6 (v30 a0 a1 b0 b1 c0 c1 d0 d1 e0 e1 _ t HFF.out.b1)).mono ?_
      rintro e z7 ⟨rfl, Z7, -⟩
      clear Z6 q0 q1 q2 q3 q4 q5 q6 q7 q8 q9
      have q0 := Z7.fact (.head _) (i := 0) rfl
      have q1 := Z7.fact (.head _) (i := 1) rfl
      have q2 := Z7.tail.fact (.head _) (i := 0) rfl
      have q3 := Z7.tail.fact (.head _) (i := 1) rfl
      have q4 := Z7.tail.tail.fact (.head _) (i := 0) rfl
      have q5 := Z7.tail.tail.fact (.head _) (i := 1) rfl
      have q6 := Z7.tail.tail.tail.fact (.head _) (i := 0) rfl
      have q7 := Z7.tail.tail.tail.fact (.head _) (i := 1) rfl
      have q8 := Z7.tail.tail.tail.tail.fact (.head _) (i := 0) rfl
      have q9 := Z7.tail.tail.tail.tail.fact (.head _) (i := 1) rfl
      go_upto_region 11 with fail
      go_cut [125] (fun v wx => v = .bool false ∧ Has w [(pA, [.int .i64 a0, .int .i64 a1]), (pB, [.int .i64 b0, .int .i64 b1]), (pC, [.int .i64 c0, .int .i64 c1]), (pD, [.int .i64 d0, .int .i64 d1]), (pE, [.int .i64 e0, .int .i64 e1]), (P, [.int .i64 a0, .int .i64 a1, .int .i64 b0, .int .i64 b1, .int .i64 c0, .int .i64 c1, .int .i64 d0, .int .i64 d1, .int .i64 e0, .int .i64 e1])] wx)
      case first =>
        go_wp2_with fail
        refine (calls_two Z7 (v30 a0 a1 b0 b1 c0 c1 e0 e1 d0 d1 _ t HFF.out.b2)).mono ?_
        rintro e z8 ⟨rfl, Z8, -⟩
        clear Z7 q0 q1 q2 q3 q4 q5 q6 q7 q8 q9
        have q0 := Z8.fact (.head _) (i := 0) rfl
        have q1 := Z8.fact (.head _) (i := 1) rfl
        have q2 := Z8.tail.fact (.head _) (i := 0) rfl
        have q3 := Z8.tail.fact (.head _) (i := 1) rfl
        have q4 := Z8.tail.tail.fact (.head _) (i := 0) rfl
        have q5 := Z8.tail.tail.fact (.head _) (i := 1) rfl
        have q6 := Z8.tail.tail.tail.fact (.head _) (i := 0) rfl
        have q7 := Z8.tail.tail.tail.fact (.head _) (i := 1) rfl
        have q8 := Z8.tail.tail.tail.tail.fact (.head _) (i := 0) rfl
        have q9 := Z8.tail.tail.tail.tail.fact (.head _) (i := 1) rfl
        go_wp2_with fail
        refine (calls_two Z8 (v30 c0 c1 b0 b1 a0 a1 d0 d1 e0 e1 _ t HFF.out.b3)).mono ?_
        rintro e z9 ⟨rfl, Z9, -⟩
        clear Z8 q0 q1 q2 q3 q4 q5 q6 q7 q8 q9
        have q0 := Z9.fact (.head _) (i := 0) rfl
        have q1 := Z9.fact (.head _) (i := 1) rfl
        have q2 := Z9.tail.fact (.head _) (i := 0) rfl
        have q3 := Z9.tail.fact (.head _) (i := 1) rfl
        have q4 := Z9.tail.tail.fact (.head _) (i := 0) rfl
        have q5 := Z9.tail.tail.fact (.head _) (i := 1) rfl
        have q6 := Z9.tail.tail.tail.fact (.head _) (i := 0) rfl
        have q7 := Z9.tail.tail.tail.fact (.head _) (i := 1) rfl
        have q8 := Z9.tail.tail.tail.tail.fact (.head _) (i := 0) rfl
        have q9 := Z9.tail.tail.tail.tail.fact (.head _) (i := 1) rfl
        cases i
        · go_wp2_with fail
          go_meet
          exact ⟨rfl, Z9⟩
        · rcases eq3 d0 d1 a0 a1 with ⟨e1', e2', e3'⟩ | ⟨e1', e2', e3'⟩ | ⟨e1', e3'⟩
          · clear e3'
            go_wp2_with fail
            go_meet
            exact ⟨rfl, Z9⟩
          all_goals
            rcases eq3 d0 d1 c0 c1 with ⟨g1', g2', g3'⟩ | ⟨g1', g2', g3'⟩ | ⟨g1', g3'⟩
            · clear e3' g3'
              go_wp2_with fail
              go_meet
              exact ⟨rfl, Z9⟩
            all_goals
              obtain rfl : t = true := HFF.out.b4 rfl e3' g3'
              clear e3' g3'
              go_wp2_with fail
              go_meet
              exact ⟨rfl, Z9⟩
      case rest =>
        obtain ⟨rfl, CR⟩ := hcut
        go_upto_region 13 with fail
        obtain ⟨x0, y0, x1, y1, hb1⟩ : ∃ x0 y0 x1 y1, bxo [(a0, a1), (b0, b1), (c0, c1)] = ((x0, y0), (x1, y1)) := ⟨_, _, _, _, rfl⟩
        obtain ⟨u0, s0, u1, s1, hb2⟩ : ∃ u0 s0 u1 s1, bxo [(d0, d1), (e0, e1)] = ((u0, s0), (u1, s1)) := ⟨_, _, _, _, rfl⟩
        have HN := Lib.hid (show nearOf x0 y0 x1 y1 u0 s0 u1 s1 = nr by have h := HFF.out.b5; unfold nearP at h; rw [hb1, hb2] at h; exact h)
        have HB1 := Lib.hid hb1
        have HB2 := Lib.hid hb2
        clear hb1 hb2
        have D0 := CR.drew
        clear CR
        generalize (World.drew _) = wd at *
        have HR := Lib.hid (show ∀ w', Has w [(P, [.int .i64 a0, .int .i64 a1, .int .i64 b0, .int .i64 b1, .int .i64 c0, .int .i64 c1, .int .i64 d0, .int .i64 d1, .int .i64 e0, .int .i64 e1])] w' → RowP w' (.slice (some ⟨P, 0, none⟩) 3 5) [(a0, a1), (b0, b1), (c0, c1)] ∧ RowP w' (.slice (some ⟨P, 6, none⟩) 2 2) [(d0, d1), (e0, e1)] from fun w' h => by
          have hc : Cells w' P (flat [(a0, a1), (b0, b1), (c0, c1), (d0, d1), (e0, e1)]) := h.cells
          refine ⟨row_part (o := 0) hc rfl (by omega) (by omega) ?_, row_part (o := 3) hc rfl (by omega) (by omega) ?_⟩
          · rintro (_ | _ | _ | i) p hp <;> first | exact hp | (simp at hp)
          · rintro (_ | _ | i) p hp <;> first | exact hp | (simp at hp))
        cases nr
        · obtain rfl : t = false := HFF.out.b6 rfl
          refine wp_region_held_drew (S := (fun w' => Has w [(pA, [.int .i64 a0, .int .i64 a1]), (pB, [.int .i64 b0, .int .i64 b1]), (pC, [.int .i64 c0, .int .i64 c1]), (pD, [.int .i64 d0, .int .i64 d1]), (pE, [.int .i64 e0, .int .i64 e1]), (P, [.int .i64 a0, .int .i64 a1, .int .i64 b0, .int .i64 b1, .int .i64 c0, .int .i64 c1, .int .i64 d0, .int .i64 d1, .int .i64 e0, .int .i64 e1])] w')) (by kernel_rfl) (D0) (fun hHeld => ?_)
          refine wpAnyT_begin [0, 1, 2, 4] (by kernel_rfl) (by kernel_rfl) ?_
          refine wpAnyT_take (oi := ⟨some 126, Op.move (Operand.tmp 3), 4, _, _, none⟩) (v := .bool true) rfl (fun _ _ _ h => h) (by rfl) (by assumption) (fun wS hSw => ?_) ?_
          · (try dsimp only at hSw); go_simp
          simp only [Act.put, List.setIfInBounds_toArray, List.set_cons_zero, List.set_cons_succ]
          refine wpAnyT_take (oi := ⟨some 127, Op.move (Operand.tmp 126), 4, _, _, none⟩) (v := .bool true) rfl (fun _ _ _ h => h) (by rfl) (by assumption) (fun wS hSw => ?_) ?_
          · (try dsimp only at hSw); go_simp
          simp only [Act.put, List.setIfInBounds_toArray, List.set_cons_zero, List.set_cons_succ]
          refine wpAnyT_take (oi := ⟨some 128, Op.slice 42 (Operand.tmp 1) none (some (Operand.const (Value.int IntKind.i64 3))) none, 23, _, _, some (1, true)⟩) (v := .slice (some ⟨P, 0, none⟩) 3 5) rfl (fun _ _ _ h => h) (by rfl) (by assumption) (fun wS hSw => ?_) ?_
          · (try dsimp only at hSw); go_simp
          simp only [Act.put, List.setIfInBounds_toArray, List.set_cons_zero, List.set_cons_succ]
          refine wpAnyT_take (oi := ⟨some 130, Op.slice 42 (Operand.tmp 1) (some (Operand.const (Value.int IntKind.i64 3))) none none, 23, _, _, some (1, true)⟩) (v := .slice (some ⟨P, 6, none⟩) 2 2) rfl (fun _ _ _ h => h) (by rfl) (by assumption) (fun wS hSw => ?_) ?_
          · (try dsimp only at hSw); go_simp
          simp only [Act.put, List.setIfInBounds_toArray, List.set_cons_zero, List.set_cons_succ]
          refine wpAnyT_end ?_
          refine wpAnyH_listed #[true, true, true, false, true, false, false, false, false, false, false, false, false] (by kernel_rfl) ?_
          refine wpAnyH_ready (rs := [3]) (by kernel_rfl) (by simp) ?_
          refine AllReadyH.cons (o := ⟨some 129, Op.call { callee := Callee.value (Operand.func 32), args := #[Operand.tmp 128], argTypes := #[23] }, 47, _, _, some (1, true)⟩) rfl (fun K hK => ?_) AllReadyH.nil
          go_simp
          go_at_call 32
          refine (Has.call D0 (v32 _ _ _ (HR.out _ D0.tail.tail.tail.tail.tail).1 _ _ _ _ HB1.out)).mono ?_
          rintro e y1 ⟨rfl, D1⟩
          go_wp2_with fail
          clear hHeld
          refine hK.out _ _ (D1) (fun hHeld => ?_)
          clear hK K
          try simp only [List.setIfInBounds_toArray, List.set_cons_zero, List.set_cons_succ]
          refine wpAnyH_listed #[true, true, true, true, true, false, false, false, false, false, false, false, false] (by kernel_rfl) ?_
          refine wpAnyH_ready (rs := [5]) (by kernel_rfl) (by simp) ?_
          refine AllReadyH.cons (o := ⟨some 131, Op.call { callee := Callee.value (Operand.func 32), args := #[Operand.tmp 130], argTypes := #[23] }, 47, _, _, some (1, true)⟩) rfl (fun K hK => ?_) AllReadyH.nil
          go_simp
          go_at_call 32
          refine (Has.call D1 (v32 _ _ _ (HR.out _ D1.tail.tail.tail.tail.tail).2 _ _ _ _ HB2.out)).mono ?_
          rintro e y2 ⟨rfl, D2⟩
          go_wp2_with fail
          clear hHeld
          refine hK.out _ _ (D2) (fun hHeld => ?_)
          clear hK K
          try simp only [List.setIfInBounds_toArray, List.set_cons_zero, List.set_cons_succ]
          refine wpAnyH_listed #[true, true, true, true, true, true, false, false, false, false, false, false, false] (by kernel_rfl) ?_
          refine wpAnyH_ready (rs := [6]) (by kernel_rfl) (by simp) ?_
          refine AllReadyH.cons (o := ⟨some 132, Op.call { callee := Callee.value (Operand.func 31), args := #[Operand.tmp 129, Operand.tmp 131], argTypes := #[47, 47] }, 4, _, _, some (1, true)⟩) rfl (fun K hK => ?_) AllReadyH.nil
          go_simp
          go_at_call 31
          refine (Has.call D2 (v31 _ _ _ _ _ _ _ _ _ false HN.out)).mono ?_
          rintro e y3 ⟨rfl, D3⟩
          go_wp2_with fail
          clear hHeld
          refine hK.out _ _ (D3) (fun hHeld => ?_)
          clear hK K
          try simp only [List.setIfInBounds_toArray, List.set_cons_zero, List.set_cons_succ]
          refine wpAnyH_listed #[true, true, true, true, true, true, true, false, false, false, false, false, false] (by kernel_rfl) ?_
          refine wpAnyT_begin [7] (by kernel_rfl) (by kernel_rfl) ?_
          refine wpAnyT_take (oi := ⟨some 133, Op.move (Operand.tmp 132), 4, _, _, some (1, true)⟩) (v := .bool false) rfl (fun _ _ _ h => h) (by rfl) (by assumption) (fun wS hSw => ?_) ?_
          · (try dsimp only at hSw); go_simp
          simp only [Act.put, List.setIfInBounds_toArray, List.set_cons_zero, List.set_cons_succ]
          refine wpAnyT_end ?_
          refine wpAnyH_listed #[true, true, true, true, true, true, true, true, false, false, false, false, false] (by kernel_rfl) ?_
          refine wpAnyT_begin [8] (by kernel_rfl) (by kernel_rfl) ?_
          refine wpAnyT_take (oi := ⟨some 134, Op.move (Operand.tmp 11), 4, _, _, some (7, false)⟩) (v := .bool false) rfl (fun _ _ _ h => h) (by rfl) (by assumption) (fun wS hSw => ?_) ?_
          · (try dsimp only at hSw); go_simp
          simp only [Act.put, List.setIfInBounds_toArray, List.set_cons_zero, List.set_cons_succ]
          refine wpAnyT_end ?_
          refine wpAnyH_listed #[true, true, true, true, true, true, true, true, true, false, false, false, false] (by kernel_rfl) ?_
          refine wpAnyT_begin [9] (by kernel_rfl) (by kernel_rfl) ?_
          refine wpAnyT_take (oi := ⟨some 135, Op.unOp UnOp.not 4 (Operand.tmp 134), 4, _, _, some (7, false)⟩) (v := .bool true) rfl (fun _ _ _ h => h) (by rfl) (by assumption) (fun wS hSw => ?_) ?_
          · (try dsimp only at hSw); go_simp
          simp only [Act.put, List.setIfInBounds_toArray, List.set_cons_zero, List.set_cons_succ]
          refine wpAnyT_end ?_
          refine wpAnyH_listed #[true, true, true, true, true, true, true, true, true, true, false, false, false] (by kernel_rfl) ?_
          refine wpAnyT_begin [10] (by kernel_rfl) (by kernel_rfl) ?_
          refine wpAnyT_take (oi := ⟨some 136, Op.pick (Operand.tmp 133) (Operand.const (Value.bool true)) (Operand.tmp 135), 4, _, _, some (1, true)⟩) (v := .bool true) rfl (fun _ _ _ h => h) (by rfl) (by assumption) (fun wS hSw => ?_) ?_
          · (try dsimp only at hSw); go_simp
          simp only [Act.put, List.setIfInBounds_toArray, List.set_cons_zero, List.set_cons_succ]
          refine wpAnyT_end ?_
          refine wpAnyH_listed #[true, true, true, true, true, true, true, true, true, true, true, false, false] (by kernel_rfl) ?_
          refine wpAnyT_begin [11] (by kernel_rfl) (by kernel_rfl) ?_
          refine wpAnyT_take (oi := ⟨some 137, Op.pick (Operand.tmp 127) (Operand.tmp 136) (Operand.const (Value.bool false)), 4, _, _, none⟩) (v := .bool true) rfl (fun _ _ _ h => h) (by rfl) (by assumption) (fun wS hSw => ?_) ?_
          · (try dsimp only at hSw); go_simp
          simp only [Act.put, List.setIfInBounds_toArray, List.set_cons_zero, List.set_cons_succ]
          refine wpAnyT_end ?_
          refine wpAnyH_listed #[true, true, true, true, true, true, true, true, true, true, true, true, false] (by kernel_rfl) ?_
          refine wpAnyT_begin [12] (by kernel_rfl) (by kernel_rfl) ?_
          refine wpAnyT_take (oi := ⟨some 2, Op.assign (Operand.tmp 137), 4, _, _, none⟩) (v := .bool true) rfl (fun _ _ _ h => h) (by rfl) (by assumption) (fun wS hSw => ?_) ?_
          · (try dsimp only at hSw); go_simp
          simp only [Act.put, List.setIfInBounds_toArray, List.set_cons_zero, List.set_cons_succ]
          refine wpAnyT_end ?_
          refine wpAnyH_listed #[true, true, true, true, true, true, true, true, true, true, true, true, true] (by kernel_rfl) ?_
          refine wpAnyH_done (by kernel_rfl) ?_ _
          clear hHeld
          go_wp2_with fail
          go_ret
          exact ⟨rfl, D3.low⟩
        · refine wp_region_held_drew (S := (fun w' => Has w [(pA, [.int .i64 a0, .int .i64 a1]), (pB, [.int .i64 b0, .int .i64 b1]), (pC, [.int .i64 c0, .int .i64 c1]), (pD, [.int .i64 d0, .int .i64 d1]), (pE, [.int .i64 e0, .int .i64 e1]), (P, [.int .i64 a0, .int .i64 a1, .int .i64 b0, .int .i64 b1, .int .i64 c0, .int .i64 c1, .int .i64 d0, .int .i64 d1, .int .i64 e0, .int .i64 e1])] w')) (by kernel_rfl) (D0) (fun hHeld => ?_)
          refine wpAnyT_begin [0, 1, 2, 4] (by kernel_rfl) (by kernel_rfl) ?_
          refine wpAnyT_take (oi := ⟨some 126, Op.move (Operand.tmp 3), 4, _, _, none⟩) (v := .bool true) rfl (fun _ _ _ h => h) (by rfl) (by assumption) (fun wS hSw => ?_) ?_
          · (try dsimp only at hSw); go_simp
          simp only [Act.put, List.setIfInBounds_toArray, List.set_cons_zero, List.set_cons_succ]
          refine wpAnyT_take (oi := ⟨some 127, Op.move (Operand.tmp 126), 4, _, _, none⟩) (v := .bool true) rfl (fun _ _ _ h => h) (by rfl) (by assumption) (fun wS hSw => ?_) ?_
          · (try dsimp only at hSw); go_simp
          simp only [Act.put, List.setIfInBounds_toArray, List.set_cons_zero, List.set_cons_succ]
          refine wpAnyT_take (oi := ⟨some 128, Op.slice 42 (Operand.tmp 1) none (some (Operand.const (Value.int IntKind.i64 3))) none, 23, _, _, some (1, true)⟩) (v := .slice (some ⟨P, 0, none⟩) 3 5) rfl (fun _ _ _ h => h) (by rfl) (by assumption) (fun wS hSw => ?_) ?_
          · (try dsimp only at hSw); go_simp
          simp only [Act.put, List.setIfInBounds_toArray, List.set_cons_zero, List.set_cons_succ]
          refine wpAnyT_take (oi := ⟨some 130, Op.slice 42 (Operand.tmp 1) (some (Operand.const (Value.int IntKind.i64 3))) none none, 23, _, _, some (1, true)⟩) (v := .slice (some ⟨P, 6, none⟩) 2 2) rfl (fun _ _ _ h => h) (by rfl) (by assumption) (fun wS hSw => ?_) ?_
          · (try dsimp only at hSw); go_simp
          simp only [Act.put, List.setIfInBounds_toArray, List.set_cons_zero, List.set_cons_succ]
          refine wpAnyT_end ?_
          refine wpAnyH_listed #[true, true, true, false, true, false, false, false, false, false, false, false, false] (by kernel_rfl) ?_
          refine wpAnyH_ready (rs := [3]) (by kernel_rfl) (by simp) ?_
          refine AllReadyH.cons (o := ⟨some 129, Op.call { callee := Callee.value (Operand.func 32), args := #[Operand.tmp 128], argTypes := #[23] }, 47, _, _, some (1, true)⟩) rfl (fun K hK => ?_) AllReadyH.nil
          go_simp
          go_at_call 32
          refine (Has.call D0 (v32 _ _ _ (HR.out _ D0.tail.tail.tail.tail.tail).1 _ _ _ _ HB1.out)).mono ?_
          rintro e y1 ⟨rfl, D1⟩
          go_wp2_with fail
          clear hHeld
          refine hK.out _ _ (D1) (fun hHeld => ?_)
          clear hK K
          try simp only [List.setIfInBounds_toArray, List.set_cons_zero, List.set_cons_succ]
          refine wpAnyH_listed #[true, true, true, true, true, false, false, false, false, false, false, false, false] (by kernel_rfl) ?_
          refine wpAnyH_ready (rs := [5]) (by kernel_rfl) (by simp) ?_
          refine AllReadyH.cons (o := ⟨some 131, Op.call { callee := Callee.value (Operand.func 32), args := #[Operand.tmp 130], argTypes := #[23] }, 47, _, _, some (1, true)⟩) rfl (fun K hK => ?_) AllReadyH.nil
          go_simp
          go_at_call 32
          refine (Has.call D1 (v32 _ _ _ (HR.out _ D1.tail.tail.tail.tail.tail).2 _ _ _ _ HB2.out)).mono ?_
          rintro e y2 ⟨rfl, D2⟩
          go_wp2_with fail
          clear hHeld
          refine hK.out _ _ (D2) (fun hHeld => ?_)
          clear hK K
          try simp only [List.setIfInBounds_toArray, List.set_cons_zero, List.set_cons_succ]
          refine wpAnyH_listed #[true, true, true, true, true, true, false, false, false, false, false, false, false] (by kernel_rfl) ?_
          refine wpAnyH_ready (rs := [6]) (by kernel_rfl) (by simp) ?_
          refine AllReadyH.cons (o := ⟨some 132, Op.call { callee := Callee.value (Operand.func 31), args := #[Operand.tmp 129, Operand.tmp 131], argTypes := #[47, 47] }, 4, _, _, some (1, true)⟩) rfl (fun K hK => ?_) AllReadyH.nil
          go_simp
          go_at_call 31
          refine (Has.call D2 (v31 _ _ _ _ _ _ _ _ _ true HN.out)).mono ?_
          rintro e y3 ⟨rfl, D3⟩
          go_wp2_with fail
          clear hHeld
          refine hK.out _ _ (D3) (fun hHeld => ?_)
          clear hK K
          try simp only [List.setIfInBounds_toArray, List.set_cons_zero, List.set_cons_succ]
          refine wpAnyH_listed #[true, true, true, true, true, true, true, false, false, false, false, false, false] (by kernel_rfl) ?_
          refine wpAnyT_begin [7] (by kernel_rfl) (by kernel_rfl) ?_
          refine wpAnyT_take (oi := ⟨some 133, Op.move (Operand.tmp 132), 4, _, _, some (1, true)⟩) (v := .bool true) rfl (fun _ _ _ h => h) (by rfl) (by assumption) (fun wS hSw => ?_) ?_
          · (try dsimp only at hSw); go_simp
          simp only [Act.put, List.setIfInBounds_toArray, List.set_cons_zero, List.set_cons_succ]
          refine wpAnyT_end ?_
          refine wpAnyH_listed #[true, true, true, true, true, true, true, true, false, false, false, false, false] (by kernel_rfl) ?_
          refine wpAnyT_begin [8] (by kernel_rfl) (by kernel_rfl) ?_
          refine wpAnyT_skip (oi := ⟨some 134, Op.move (Operand.tmp 11), 4, _, _, some (7, false)⟩) rfl (fun _ _ _ h => h) (by rfl) (by assumption) ?_
          simp only [Act.put, List.setIfInBounds_toArray, List.set_cons_zero, List.set_cons_succ]
          refine wpAnyT_end ?_
          refine wpAnyH_listed #[true, true, true, true, true, true, true, true, true, false, false, false, false] (by kernel_rfl) ?_
          refine wpAnyT_begin [9] (by kernel_rfl) (by kernel_rfl) ?_
          refine wpAnyT_skip (oi := ⟨some 135, Op.unOp UnOp.not 4 (Operand.tmp 134), 4, _, _, some (7, false)⟩) rfl (fun _ _ _ h => h) (by rfl) (by assumption) ?_
          simp only [Act.put, List.setIfInBounds_toArray, List.set_cons_zero, List.set_cons_succ]
          refine wpAnyT_end ?_
          refine wpAnyH_listed #[true, true, true, true, true, true, true, true, true, true, false, false, false] (by kernel_rfl) ?_
          refine wpAnyT_begin [10] (by kernel_rfl) (by kernel_rfl) ?_
          refine wpAnyT_take (oi := ⟨some 136, Op.pick (Operand.tmp 133) (Operand.const (Value.bool true)) (Operand.tmp 135), 4, _, _, some (1, true)⟩) (v := .bool true) rfl (fun _ _ _ h => h) (by rfl) (by assumption) (fun wS hSw => ?_) ?_
          · (try dsimp only at hSw); go_simp
          simp only [Act.put, List.setIfInBounds_toArray, List.set_cons_zero, List.set_cons_succ]
          refine wpAnyT_end ?_
          refine wpAnyH_listed #[true, true, true, true, true, true, true, true, true, true, true, false, false] (by kernel_rfl) ?_
          refine wpAnyT_begin [11] (by kernel_rfl) (by kernel_rfl) ?_
          refine wpAnyT_take (oi := ⟨some 137, Op.pick (Operand.tmp 127) (Operand.tmp 136) (Operand.const (Value.bool false)), 4, _, _, none⟩) (v := .bool true) rfl (fun _ _ _ h => h) (by rfl) (by assumption) (fun wS hSw => ?_) ?_
          · (try dsimp only at hSw); go_simp
          simp only [Act.put, List.setIfInBounds_toArray, List.set_cons_zero, List.set_cons_succ]
          refine wpAnyT_end ?_
          refine wpAnyH_listed #[true, true, true, true, true, true, true, true, true, true, true, true, false] (by kernel_rfl) ?_
          refine wpAnyT_begin [12] (by kernel_rfl) (by kernel_rfl) ?_
          refine wpAnyT_take (oi := ⟨some 2, Op.assign (Operand.tmp 137), 4, _, _, none⟩) (v := .bool true) rfl (fun _ _ _ h => h) (by rfl) (by assumption) (fun wS hSw => ?_) ?_
          · (try dsimp only at hSw); go_simp
          simp only [Act.put, List.setIfInBounds_toArray, List.set_cons_zero, List.set_cons_succ]
          refine wpAnyT_end ?_
          refine wpAnyH_listed #[true, true, true, true, true, true, true, true, true, true, true, true, true] (by kernel_rfl) ?_
          refine wpAnyH_done (by kernel_rfl) ?_ _
          clear hHeld
          go_wp2_with fail
          go_ret
          exact ⟨rfl, D3.low⟩

end Go.Proofs.Ytkejilomempogaa
