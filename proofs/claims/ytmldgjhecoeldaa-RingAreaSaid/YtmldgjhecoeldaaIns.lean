/- ring.Inside. -/
import Derived.Test.YtmldgjhecoeldaaRCk
import Derived.Test.YtmldgjhecoeldaaRRy
namespace Go.Proofs.Ytmldgjhecoeldaa
open Go.RowKit Go.Lib

/-- A segment has the point; how it passes it. -/
def onK (ps : List (Int × Int)) (p : Int × Int) (k : Nat) : Bool := onOf (pt ps k).1 (pt ps k).2 (pt ps (nx ps.length k)).1 (pt ps (nx ps.length k)).2 p.1 p.2
def rayK (ps : List (Int × Int)) (p : Int × Int) (k : Nat) : Int := rayOf (pt ps k).1 (pt ps k).2 (pt ps (nx ps.length k)).1 (pt ps (nx ps.length k)).2 p.1 p.2
/-- What Inside answers. -/
def insV (ps : List (Int × Int)) (p : Int × Int) : Int := if anyTo (onK ps p) ps.length = true then 0 else if sumT (rayK ps p) ps.length = 0 then -1 else 1
def insP (ps : List (Int × Int)) (p : Int × Int) : Int := if rchkP ps ≠ 0 then -1 else insV ps p
/-- As it is computed, by the box first. -/
def insC (ps : List (Int × Int)) (p : Int × Int) : Int := if nearP ps [p] = false then -1 else insP ps p
theorem rayOf_bd (a0 a1 b0 b1 p0 p1 : Int) : -1 ≤ rayOf a0 a1 b0 b1 p0 p1 ∧ rayOf a0 a1 b0 b1 p0 p1 ≤ 1 := by
  unfold rayOf; split
  · omega
  · split <;> omega
theorem raysum_bd (ps : List (Int × Int)) (p : Int × Int) : ∀ k : Nat, -(k : Int) ≤ sumT (rayK ps p) k ∧ sumT (rayK ps p) k ≤ k := by
  intro k
  induction k with
  | zero => simp [sumT]
  | succ k ih =>
    have : -1 ≤ rayK ps p k ∧ rayK ps p k ≤ 1 := rayOf_bd _ _ _ _ _ _
    rw [sumT]; omega
theorem box_is (v : Value) (ps : List (Int × Int)) (x0 x1 y0 y1 : Int) (h : bxo ps = ((x0, y0), (x1, y1))) (w : World) (hv : RowP w v ps) :
    Calls Try.prog 35 #[v] w fun e w' => e = .returned (.agg #[.int .i64 x0, .int .i64 y0, .int .i64 x1, .int .i64 y1]) ∧ Below w.heap.size w w' := by
  have := box_any v ps w hv
  rw [h] at this
  exact this
theorem near_is (a0 a1 a2 a3 b0 b1 b2 b3 : Int) (r : Bool) (h : nearOf a0 a1 a2 a3 b0 b1 b2 b3 = r) (w : World) :
    Calls Try.prog 34 #[.agg #[.int .i64 a0, .int .i64 a1, .int .i64 a2, .int .i64 a3], .agg #[.int .i64 b0, .int .i64 b1, .int .i64 b2, .int .i64 b3]] w fun e w' => e = .returned (.bool r) ∧ Below w.heap.size w w' := h ▸ near_any a0 a1 a2 a3 b0 b1 b2 b3 w
theorem ringcheck_is (v : Value) (ps : List (Int × Int)) (w : World) (hv : RowP w v ps) (r : Int) (h : rchkP ps = r) :
    Calls Try.prog 14 #[v] w fun e w' => e = .returned (.int .i64 r) ∧ Below w.heap.size w w' := h ▸ ringcheck_any v ps w hv
theorem row_pt {w W : World} {T : Nat} {x y : Int} {bs : List (Nat × List Value)} (h : Has w ((T, [.int .i64 x, .int .i64 y]) :: bs) W) : RowP W (.slice (some ⟨T, 0, none⟩) 1 1) [(x, y)] :=
  RowP.block (ps := [(x, y)]) h.cells (Nat.le_refl _) (by simp)
theorem plain_calm {ops : Array Oper} {Q : Exit → Act → World → Prop} {S : World → Prop} {id : Nat} {a : Act} {w : World} (hm : Try.prog.follows .mixedOrders = true) (hS : S w.drew)
    (h : S w.drew → wpAnyH Try.prog .any ops (Calm Q) S ops.size (Array.replicate ops.size false) a w.drew) : (Code.region id ops true).wp Try.prog Q a w :=
  wpIn_wide.1 (wpIn_mono (n := 0) (wpIn_wide.2 (wp_region_held_drew (S := S) hm hS h)) Calm.imp)
attribute [local go_sem] Oper.semAt_some
set_option linter.unusedSimpArgs false in
set_option maxRecDepth 100000 in
set_option maxHeartbeats 16000000 in
theorem inside_any (v : Value) (ps : List (Int × Int)) (p0 p1 : Int) (w : World) (hv : RowP w v ps) :
    Calls Try.prog 18 #[v, .agg #[.int .i64 p0, .int .i64 p1]] w fun e w' => e = .returned (.int .i64 (insC ps (p0, p1))) ∧ Below w.heap.size w w' := by
  have C0 := has2 (w := w) [.int .i64 p0, .int .i64 p1] [.int .i64 0] 24 3
  obtain ⟨x0, y0, x1, y1, hbl⟩ : ∃ x0 y0 x1 y1, bxo ps = ((x0, y0), (x1, y1)) := ⟨_, _, _, _, rfl⟩
  obtain ⟨u0, v0, u1, v1, hbp⟩ : ∃ x0 y0 x1 y1, bxo [(p0, p1)] = ((x0, y0), (x1, y1)) := ⟨_, _, _, _, rfl⟩
  obtain ⟨nr, hnr⟩ : ∃ r, nearOf x0 y0 x1 y1 u0 v0 u1 v1 = r := ⟨_, rfl⟩
  have hN : nearP ps [(p0, p1)] = nr := by unfold nearP; rw [hbl, hbp]; exact hnr
  have HV := Lib.hid hv
  have HBL := Lib.hid hbl
  have HBP := Lib.hid hbp
  have HNR := Lib.hid hnr
  clear hv hbl hbp hnr
  cases nr
  · skip
    have HR := Lib.hid (show (-1 : Int) = insC ps (p0, p1) by unfold insC; rw [if_pos hN])
    clear hN
    go_enter Try.func18, Try.ntmps18
    go_upto_region 1 with fail
    change Has w _ ((w.alloc (.cells #[.int .i64 p0, .int .i64 p1] 24)).alloc (.cells #[.int .i64 0] 3)) at C0
    generalize (w.alloc (.cells #[.int .i64 p0, .int .i64 p1] 24)).alloc (.cells #[.int .i64 0] 3) = w1 at *
    have X0 := C0.drew
    have ms1 := Lib.hid (show ∀ w', Has w [(w.heap.size, [.int .i64 p0, .int .i64 p1]), (w.heap.size + 1, [.int .i64 0])] w' → (w'.cell? ⟨w.heap.size, 0, none⟩ = some (.int .i64 p0) ∧ w'.cell? ⟨w.heap.size, 1, none⟩ = some (.int .i64 p1) ∧ w'.cell? ⟨w.heap.size + 1, 0, none⟩ = some (.int .i64 0)) ∧ Has w [(w.heap.size, [.int .i64 p0, .int .i64 p1]), (w.heap.size + 1, [.int .i64 0])] w' from fun w' h => by
      exact ⟨⟨h.fact (.head _) (i := 0) rfl, h.fact (.head _) (i := 1) rfl, h.tail.fact (.head _) (i := 0) rfl⟩, h⟩)
    refine wp_region_held_drew (S := (fun w' => (w'.cell? ⟨w.heap.size, 0, none⟩ = some (.int .i64 p0) ∧ w'.cell? ⟨w.heap.size, 1, none⟩ = some (.int .i64 p1) ∧ w'.cell? ⟨w.heap.size + 1, 0, none⟩ = some (.int .i64 0)) ∧ Has w [(w.heap.size, [.int .i64 p0, .int .i64 p1]), (w.heap.size + 1, [.int .i64 0])] w')) (by kernel_rfl) (ms1.out _ X0) (fun hHeld => ?_)
    generalize w1.drew = V0 at *
    refine wpAnyT_begin [0, 2] (by kernel_rfl) (by kernel_rfl) ?_
    refine wpAnyT_take (oi := ⟨some 8, Op.move (Operand.tmp 0), 25, _, _, none⟩) (v := v) rfl (fun _ _ _ h => h) (by rfl) (by assumption) (fun wS hSw => ?_) ?_
    · (try dsimp only at hSw); go_simp
    simp only [Act.put, List.setIfInBounds_toArray, List.set_cons_zero, List.set_cons_succ]
    refine wpAnyT_take (oi := ⟨some 10, Op.load 24 (Operand.tmp 3), 24, _, _, none⟩) (v := .agg #[.int .i64 p0, .int .i64 p1]) rfl (fun _ _ _ h => h) (by rfl) (by assumption) (fun wS hSw => ?_) ?_
    · (try dsimp only at hSw); go_simp
    simp only [Act.put, List.setIfInBounds_toArray, List.set_cons_zero, List.set_cons_succ]
    refine wpAnyT_end ?_
    refine wpAnyH_listed #[true, false, true, false, false, false, false, false, false, false, false, false] (by kernel_rfl) ?_
    refine wpAnyH_ready (rs := [1, 3]) (by kernel_rfl) (by simp) ?_
    refine AllReadyH.cons (o := ⟨some 9, Op.call { callee := Callee.value (Operand.func 35), args := #[Operand.tmp 8], argTypes := #[25] }, 64, _, _, none⟩) rfl (fun K hK => ?_) (AllReadyH.cons (o := ⟨some 11, Op.buildSlice 25 1 #[(0, Operand.tmp 10)], 25, _, _, none⟩) rfl (fun K hK => ?_) AllReadyH.nil)
    · skip
      go_simp
      go_at_call 35
      refine (Has.call X0 (box_is v ps _ _ _ _ HBL.out _ (HV.out.later X0.low))).mono ?_
      rintro e V1 ⟨rfl, C2⟩
      go_wp2_with fail
      clear hHeld
      refine hK.out _ _ (ms1.out _ C2) (fun hHeld => ?_)
      clear hK K
      try simp only [List.setIfInBounds_toArray, List.set_cons_zero, List.set_cons_succ]
      refine wpAnyH_listed #[true, true, true, false, false, false, false, false, false, false, false, false] (by kernel_rfl) ?_
      refine wpAnyH_ready (rs := [3]) (by kernel_rfl) (by simp) ?_
      refine AllReadyH.cons (o := ⟨some 11, Op.buildSlice 25 1 #[(0, Operand.tmp 10)], 25, _, _, none⟩) rfl (fun K hK => ?_) AllReadyH.nil
      have C4 := C2.push [.int .i64 p0, .int .i64 p1] 24
      go_simp
      change Has w _ (V1.alloc (.cells #[.int .i64 p0, .int .i64 p1] 24)) at C4
      generalize V1.alloc (.cells #[.int .i64 p0, .int .i64 p1] 24) = V3 at *
      generalize V1.heap.size = T5 at *
      clear hHeld
      refine hK.out _ _ (ms1.out _ C4.tail) (fun hHeld => ?_)
      clear hK K
      try simp only [List.setIfInBounds_toArray, List.set_cons_zero, List.set_cons_succ]
      refine wpAnyH_listed #[true, true, true, true, false, false, false, false, false, false, false, false] (by kernel_rfl) ?_
      refine wpAnyH_ready (rs := [4]) (by kernel_rfl) (by simp) ?_
      refine AllReadyH.cons (o := ⟨some 12, Op.call { callee := Callee.value (Operand.func 35), args := #[Operand.tmp 11], argTypes := #[25] }, 64, _, _, none⟩) rfl (fun K hK => ?_) AllReadyH.nil
      go_simp
      go_at_call 35
      refine (Has.call C4 (box_is _ _ _ _ _ _ HBP.out _ (row_pt C4))).mono ?_
      rintro e V6 ⟨rfl, C7⟩
      go_wp2_with fail
      clear hHeld
      refine hK.out _ _ (ms1.out _ C7.tail) (fun hHeld => ?_)
      clear hK K
      try simp only [List.setIfInBounds_toArray, List.set_cons_zero, List.set_cons_succ]
      refine wpAnyH_listed #[true, true, true, true, true, false, false, false, false, false, false, false] (by kernel_rfl) ?_
      refine wpAnyH_ready (rs := [5]) (by kernel_rfl) (by simp) ?_
      refine AllReadyH.cons (o := ⟨some 13, Op.call { callee := Callee.value (Operand.func 34), args := #[Operand.tmp 9, Operand.tmp 12], argTypes := #[64, 64] }, 4, _, _, none⟩) rfl (fun K hK => ?_) AllReadyH.nil
      go_simp
      go_at_call 34
      refine (Has.call C7 (near_is _ _ _ _ _ _ _ _ _ HNR.out _)).mono ?_
      rintro e V8 ⟨rfl, C9⟩
      go_wp2_with fail
      clear hHeld
      refine hK.out _ _ (ms1.out _ C9.tail) (fun hHeld => ?_)
      clear hK K
      try simp only [List.setIfInBounds_toArray, List.set_cons_zero, List.set_cons_succ]
      refine wpAnyH_listed #[true, true, true, true, true, true, false, false, false, false, false, false] (by kernel_rfl) ?_
      refine wpAnyT_begin [6, 7, 8, 9, 10, 11] (by kernel_rfl) (by kernel_rfl) ?_
      refine wpAnyT_take (oi := ⟨some 14, Op.unOp UnOp.not 4 (Operand.tmp 13), 4, _, _, none⟩) (v := .bool true) rfl (fun _ _ _ h => h) (by rfl) (by assumption) (fun wS hSw => ?_) ?_
      · (try dsimp only at hSw); go_simp
      simp only [Act.put, List.setIfInBounds_toArray, List.set_cons_zero, List.set_cons_succ]
      refine wpAnyT_take (oi := ⟨some 15, Op.move (Operand.tmp 14), 4, _, _, none⟩) (v := .bool true) rfl (fun _ _ _ h => h) (by rfl) (by assumption) (fun wS hSw => ?_) ?_
      · (try dsimp only at hSw); go_simp
      simp only [Act.put, List.setIfInBounds_toArray, List.set_cons_zero, List.set_cons_succ]
      refine wpAnyT_skip (oi := ⟨some 16, Op.move (Operand.tmp 0), 25, _, _, some (7, false)⟩) rfl (fun _ _ _ h => h) (by rfl) (by assumption) ?_
      simp only [Act.put, List.setIfInBounds_toArray, List.set_cons_zero, List.set_cons_succ]
      refine wpAnyT_skip (oi := ⟨some 17, Op.call { callee := Callee.value (Operand.func 14), args := #[Operand.tmp 16], argTypes := #[25] }, 31, _, _, some (7, false)⟩) rfl (fun _ _ _ h => h) (by rfl) (by assumption) ?_
      simp only [Act.put, List.setIfInBounds_toArray, List.set_cons_zero, List.set_cons_succ]
      refine wpAnyT_skip (oi := ⟨some 18, Op.binOp BinOp.neq 31 (Operand.tmp 17) (Operand.const (Value.int IntKind.i64 0)) 31, 4, _, _, some (7, false)⟩) rfl (fun _ _ _ h => h) (by rfl) (by assumption) ?_
      simp only [Act.put, List.setIfInBounds_toArray, List.set_cons_zero, List.set_cons_succ]
      refine wpAnyT_take (oi := ⟨some 19, Op.pick (Operand.tmp 15) (Operand.const (Value.bool true)) (Operand.tmp 18), 4, _, _, none⟩) (v := .bool true) rfl (fun _ _ _ h => h) (by rfl) (by assumption) (fun wS hSw => ?_) ?_
      · (try dsimp only at hSw); go_simp
      simp only [Act.put, List.setIfInBounds_toArray, List.set_cons_zero, List.set_cons_succ]
      refine wpAnyT_end ?_
      refine wpAnyH_listed #[true, true, true, true, true, true, true, true, true, true, true, true] (by kernel_rfl) ?_
      refine wpAnyH_done (by kernel_rfl) ?_ _
      clear hHeld
      have D := C9.tail
      clear ms1
      have k0 := D.tail.fact (.head _) (i := 0) rfl
      have f0 := D.tail.free (.head _) (i := 0) rfl
      go_wp2_with fail
      have D2 := D.swap.set 0 (by simp) (.int .i64 (-1))
      generalize V8.setCell ⟨w.heap.size + 1, 0, none⟩ (.int .i64 (-1)) = W9 at *
      have d0 : W9.cell? ⟨w.heap.size + 1, 0, none⟩ = some (.int .i64 (-1)) := D2.fact (.head _) (i := 0) rfl
      exact bodyPost_ret (v := .int .i64 (-1)) (by simp [results, Try.results18, go_sem, d0]) rfl ⟨ret_i HR.out, D2.low⟩
    · skip
      have C11 := X0.push [.int .i64 p0, .int .i64 p1] 24
      go_simp
      change Has w _ (V0.alloc (.cells #[.int .i64 p0, .int .i64 p1] 24)) at C11
      generalize V0.alloc (.cells #[.int .i64 p0, .int .i64 p1] 24) = V10 at *
      generalize V0.heap.size = T12 at *
      clear hHeld
      refine hK.out _ _ (ms1.out _ C11.tail) (fun hHeld => ?_)
      clear hK K
      try simp only [List.setIfInBounds_toArray, List.set_cons_zero, List.set_cons_succ]
      refine wpAnyH_listed #[true, false, true, true, false, false, false, false, false, false, false, false] (by kernel_rfl) ?_
      refine wpAnyH_ready (rs := [1]) (by kernel_rfl) (by simp) ?_
      refine AllReadyH.cons (o := ⟨some 9, Op.call { callee := Callee.value (Operand.func 35), args := #[Operand.tmp 8], argTypes := #[25] }, 64, _, _, none⟩) rfl (fun K hK => ?_) AllReadyH.nil
      go_simp
      go_at_call 35
      refine (Has.call C11 (box_is v ps _ _ _ _ HBL.out _ (HV.out.later C11.low))).mono ?_
      rintro e V13 ⟨rfl, C14⟩
      go_wp2_with fail
      clear hHeld
      refine hK.out _ _ (ms1.out _ C14.tail) (fun hHeld => ?_)
      clear hK K
      try simp only [List.setIfInBounds_toArray, List.set_cons_zero, List.set_cons_succ]
      refine wpAnyH_listed #[true, true, true, true, false, false, false, false, false, false, false, false] (by kernel_rfl) ?_
      refine wpAnyH_ready (rs := [4]) (by kernel_rfl) (by simp) ?_
      refine AllReadyH.cons (o := ⟨some 12, Op.call { callee := Callee.value (Operand.func 35), args := #[Operand.tmp 11], argTypes := #[25] }, 64, _, _, none⟩) rfl (fun K hK => ?_) AllReadyH.nil
      go_simp
      go_at_call 35
      refine (Has.call C14 (box_is _ _ _ _ _ _ HBP.out _ (row_pt C14))).mono ?_
      rintro e V15 ⟨rfl, C16⟩
      go_wp2_with fail
      clear hHeld
      refine hK.out _ _ (ms1.out _ C16.tail) (fun hHeld => ?_)
      clear hK K
      try simp only [List.setIfInBounds_toArray, List.set_cons_zero, List.set_cons_succ]
      refine wpAnyH_listed #[true, true, true, true, true, false, false, false, false, false, false, false] (by kernel_rfl) ?_
      refine wpAnyH_ready (rs := [5]) (by kernel_rfl) (by simp) ?_
      refine AllReadyH.cons (o := ⟨some 13, Op.call { callee := Callee.value (Operand.func 34), args := #[Operand.tmp 9, Operand.tmp 12], argTypes := #[64, 64] }, 4, _, _, none⟩) rfl (fun K hK => ?_) AllReadyH.nil
      go_simp
      go_at_call 34
      refine (Has.call C16 (near_is _ _ _ _ _ _ _ _ _ HNR.out _)).mono ?_
      rintro e V17 ⟨rfl, C18⟩
      go_wp2_with fail
      clear hHeld
      refine hK.out _ _ (ms1.out _ C18.tail) (fun hHeld => ?_)
      clear hK K
      try simp only [List.setIfInBounds_toArray, List.set_cons_zero, List.set_cons_succ]
      refine wpAnyH_listed #[true, true, true, true, true, true, false, false, false, false, false, false] (by kernel_rfl) ?_
      refine wpAnyT_begin [6, 7, 8, 9, 10, 11] (by kernel_rfl) (by kernel_rfl) ?_
      refine wpAnyT_take (oi := ⟨some 14, Op.unOp UnOp.not 4 (Operand.tmp 13), 4, _, _, none⟩) (v := .bool true) rfl (fun _ _ _ h => h) (by rfl) (by assumption) (fun wS hSw => ?_) ?_
      · (try dsimp only at hSw); go_simp
      simp only [Act.put, List.setIfInBounds_toArray, List.set_cons_zero, List.set_cons_succ]
      refine wpAnyT_take (oi := ⟨some 15, Op.move (Operand.tmp 14), 4, _, _, none⟩) (v := .bool true) rfl (fun _ _ _ h => h) (by rfl) (by assumption) (fun wS hSw => ?_) ?_
      · (try dsimp only at hSw); go_simp
      simp only [Act.put, List.setIfInBounds_toArray, List.set_cons_zero, List.set_cons_succ]
      refine wpAnyT_skip (oi := ⟨some 16, Op.move (Operand.tmp 0), 25, _, _, some (7, false)⟩) rfl (fun _ _ _ h => h) (by rfl) (by assumption) ?_
      simp only [Act.put, List.setIfInBounds_toArray, List.set_cons_zero, List.set_cons_succ]
      refine wpAnyT_skip (oi := ⟨some 17, Op.call { callee := Callee.value (Operand.func 14), args := #[Operand.tmp 16], argTypes := #[25] }, 31, _, _, some (7, false)⟩) rfl (fun _ _ _ h => h) (by rfl) (by assumption) ?_
      simp only [Act.put, List.setIfInBounds_toArray, List.set_cons_zero, List.set_cons_succ]
      refine wpAnyT_skip (oi := ⟨some 18, Op.binOp BinOp.neq 31 (Operand.tmp 17) (Operand.const (Value.int IntKind.i64 0)) 31, 4, _, _, some (7, false)⟩) rfl (fun _ _ _ h => h) (by rfl) (by assumption) ?_
      simp only [Act.put, List.setIfInBounds_toArray, List.set_cons_zero, List.set_cons_succ]
      refine wpAnyT_take (oi := ⟨some 19, Op.pick (Operand.tmp 15) (Operand.const (Value.bool true)) (Operand.tmp 18), 4, _, _, none⟩) (v := .bool true) rfl (fun _ _ _ h => h) (by rfl) (by assumption) (fun wS hSw => ?_) ?_
      · (try dsimp only at hSw); go_simp
      simp only [Act.put, List.setIfInBounds_toArray, List.set_cons_zero, List.set_cons_succ]
      refine wpAnyT_end ?_
      refine wpAnyH_listed #[true, true, true, true, true, true, true, true, true, true, true, true] (by kernel_rfl) ?_
      refine wpAnyH_done (by kernel_rfl) ?_ _
      clear hHeld
      have D := C18.tail
      clear ms1
      have k0 := D.tail.fact (.head _) (i := 0) rfl
      have f0 := D.tail.free (.head _) (i := 0) rfl
      go_wp2_with fail
      have D2 := D.swap.set 0 (by simp) (.int .i64 (-1))
      generalize V17.setCell ⟨w.heap.size + 1, 0, none⟩ (.int .i64 (-1)) = W9 at *
      have d0 : W9.cell? ⟨w.heap.size + 1, 0, none⟩ = some (.int .i64 (-1)) := D2.fact (.head _) (i := 0) rfl
      exact bodyPost_ret (v := .int .i64 (-1)) (by simp [results, Try.results18, go_sem, d0]) rfl ⟨ret_i HR.out, D2.low⟩
  · obtain ⟨c, hc⟩ : ∃ c, rchkP ps = c := ⟨_, rfl⟩
    have HC := Lib.hid hc
    by_cases hc0 : c = 0
    case neg =>
      have HR := Lib.hid (show (-1 : Int) = insC ps (p0, p1) by unfold insC insP; rw [if_neg (by rw [hN]; simp), if_pos (by rw [hc]; exact hc0)])
      clear hN hc
      have hcb : (c == 0) = false := by rw [beq_eq_false_iff_ne]; exact hc0
      go_enter Try.func18, Try.ntmps18
      go_upto_region 1 with fail
      change Has w _ ((w.alloc (.cells #[.int .i64 p0, .int .i64 p1] 24)).alloc (.cells #[.int .i64 0] 3)) at C0
      generalize (w.alloc (.cells #[.int .i64 p0, .int .i64 p1] 24)).alloc (.cells #[.int .i64 0] 3) = w1 at *
      have X0 := C0.drew
      have ms1 := Lib.hid (show ∀ w', Has w [(w.heap.size, [.int .i64 p0, .int .i64 p1]), (w.heap.size + 1, [.int .i64 0])] w' → (w'.cell? ⟨w.heap.size, 0, none⟩ = some (.int .i64 p0) ∧ w'.cell? ⟨w.heap.size, 1, none⟩ = some (.int .i64 p1) ∧ w'.cell? ⟨w.heap.size + 1, 0, none⟩ = some (.int .i64 0)) ∧ Has w [(w.heap.size, [.int .i64 p0, .int .i64 p1]), (w.heap.size + 1, [.int .i64 0])] w' from fun w' h => by
        exact ⟨⟨h.fact (.head _) (i := 0) rfl, h.fact (.head _) (i := 1) rfl, h.tail.fact (.head _) (i := 0) rfl⟩, h⟩)
      refine wp_region_held_drew (S := (fun w' => (w'.cell? ⟨w.heap.size, 0, none⟩ = some (.int .i64 p0) ∧ w'.cell? ⟨w.heap.size, 1, none⟩ = some (.int .i64 p1) ∧ w'.cell? ⟨w.heap.size + 1, 0, none⟩ = some (.int .i64 0)) ∧ Has w [(w.heap.size, [.int .i64 p0, .int .i64 p1]), (w.heap.size + 1, [.int .i64 0])] w')) (by kernel_rfl) (ms1.out _ X0) (fun hHeld => ?_)
      generalize w1.drew = V0 at *
      refine wpAnyT_begin [0, 2] (by kernel_rfl) (by kernel_rfl) ?_
      refine wpAnyT_take (oi := ⟨some 8, Op.move (Operand.tmp 0), 25, _, _, none⟩) (v := v) rfl (fun _ _ _ h => h) (by rfl) (by assumption) (fun wS hSw => ?_) ?_
      · (try dsimp only at hSw); go_simp
      simp only [Act.put, List.setIfInBounds_toArray, List.set_cons_zero, List.set_cons_succ]
      refine wpAnyT_take (oi := ⟨some 10, Op.load 24 (Operand.tmp 3), 24, _, _, none⟩) (v := .agg #[.int .i64 p0, .int .i64 p1]) rfl (fun _ _ _ h => h) (by rfl) (by assumption) (fun wS hSw => ?_) ?_
      · (try dsimp only at hSw); go_simp
      simp only [Act.put, List.setIfInBounds_toArray, List.set_cons_zero, List.set_cons_succ]
      refine wpAnyT_end ?_
      refine wpAnyH_listed #[true, false, true, false, false, false, false, false, false, false, false, false] (by kernel_rfl) ?_
      refine wpAnyH_ready (rs := [1, 3]) (by kernel_rfl) (by simp) ?_
      refine AllReadyH.cons (o := ⟨some 9, Op.call { callee := Callee.value (Operand.func 35), args := #[Operand.tmp 8], argTypes := #[25] }, 64, _, _, none⟩) rfl (fun K hK => ?_) (AllReadyH.cons (o := ⟨some 11, Op.buildSlice 25 1 #[(0, Operand.tmp 10)], 25, _, _, none⟩) rfl (fun K hK => ?_) AllReadyH.nil)
      · skip
        go_simp
        go_at_call 35
        refine (Has.call X0 (box_is v ps _ _ _ _ HBL.out _ (HV.out.later X0.low))).mono ?_
        rintro e V1 ⟨rfl, C2⟩
        go_wp2_with fail
        clear hHeld
        refine hK.out _ _ (ms1.out _ C2) (fun hHeld => ?_)
        clear hK K
        try simp only [List.setIfInBounds_toArray, List.set_cons_zero, List.set_cons_succ]
        refine wpAnyH_listed #[true, true, true, false, false, false, false, false, false, false, false, false] (by kernel_rfl) ?_
        refine wpAnyH_ready (rs := [3]) (by kernel_rfl) (by simp) ?_
        refine AllReadyH.cons (o := ⟨some 11, Op.buildSlice 25 1 #[(0, Operand.tmp 10)], 25, _, _, none⟩) rfl (fun K hK => ?_) AllReadyH.nil
        have C4 := C2.push [.int .i64 p0, .int .i64 p1] 24
        go_simp
        change Has w _ (V1.alloc (.cells #[.int .i64 p0, .int .i64 p1] 24)) at C4
        generalize V1.alloc (.cells #[.int .i64 p0, .int .i64 p1] 24) = V3 at *
        generalize V1.heap.size = T5 at *
        clear hHeld
        refine hK.out _ _ (ms1.out _ C4.tail) (fun hHeld => ?_)
        clear hK K
        try simp only [List.setIfInBounds_toArray, List.set_cons_zero, List.set_cons_succ]
        refine wpAnyH_listed #[true, true, true, true, false, false, false, false, false, false, false, false] (by kernel_rfl) ?_
        refine wpAnyH_ready (rs := [4]) (by kernel_rfl) (by simp) ?_
        refine AllReadyH.cons (o := ⟨some 12, Op.call { callee := Callee.value (Operand.func 35), args := #[Operand.tmp 11], argTypes := #[25] }, 64, _, _, none⟩) rfl (fun K hK => ?_) AllReadyH.nil
        go_simp
        go_at_call 35
        refine (Has.call C4 (box_is _ _ _ _ _ _ HBP.out _ (row_pt C4))).mono ?_
        rintro e V6 ⟨rfl, C7⟩
        go_wp2_with fail
        clear hHeld
        refine hK.out _ _ (ms1.out _ C7.tail) (fun hHeld => ?_)
        clear hK K
        try simp only [List.setIfInBounds_toArray, List.set_cons_zero, List.set_cons_succ]
        refine wpAnyH_listed #[true, true, true, true, true, false, false, false, false, false, false, false] (by kernel_rfl) ?_
        refine wpAnyH_ready (rs := [5]) (by kernel_rfl) (by simp) ?_
        refine AllReadyH.cons (o := ⟨some 13, Op.call { callee := Callee.value (Operand.func 34), args := #[Operand.tmp 9, Operand.tmp 12], argTypes := #[64, 64] }, 4, _, _, none⟩) rfl (fun K hK => ?_) AllReadyH.nil
        go_simp
        go_at_call 34
        refine (Has.call C7 (near_is _ _ _ _ _ _ _ _ _ HNR.out _)).mono ?_
        rintro e V8 ⟨rfl, C9⟩
        go_wp2_with fail
        clear hHeld
        refine hK.out _ _ (ms1.out _ C9.tail) (fun hHeld => ?_)
        clear hK K
        try simp only [List.setIfInBounds_toArray, List.set_cons_zero, List.set_cons_succ]
        refine wpAnyH_listed #[true, true, true, true, true, true, false, false, false, false, false, false] (by kernel_rfl) ?_
        refine wpAnyT_begin [6, 7, 8] (by kernel_rfl) (by kernel_rfl) ?_
        refine wpAnyT_take (oi := ⟨some 14, Op.unOp UnOp.not 4 (Operand.tmp 13), 4, _, _, none⟩) (v := .bool false) rfl (fun _ _ _ h => h) (by rfl) (by assumption) (fun wS hSw => ?_) ?_
        · (try dsimp only at hSw); go_simp
        simp only [Act.put, List.setIfInBounds_toArray, List.set_cons_zero, List.set_cons_succ]
        refine wpAnyT_take (oi := ⟨some 15, Op.move (Operand.tmp 14), 4, _, _, none⟩) (v := .bool false) rfl (fun _ _ _ h => h) (by rfl) (by assumption) (fun wS hSw => ?_) ?_
        · (try dsimp only at hSw); go_simp
        simp only [Act.put, List.setIfInBounds_toArray, List.set_cons_zero, List.set_cons_succ]
        refine wpAnyT_take (oi := ⟨some 16, Op.move (Operand.tmp 0), 25, _, _, some (7, false)⟩) (v := v) rfl (fun _ _ _ h => h) (by rfl) (by assumption) (fun wS hSw => ?_) ?_
        · (try dsimp only at hSw); go_simp
        simp only [Act.put, List.setIfInBounds_toArray, List.set_cons_zero, List.set_cons_succ]
        refine wpAnyT_end ?_
        refine wpAnyH_listed #[true, true, true, true, true, true, true, true, true, false, false, false] (by kernel_rfl) ?_
        refine wpAnyH_ready (rs := [9]) (by kernel_rfl) (by simp) ?_
        refine AllReadyH.cons (o := ⟨some 17, Op.call { callee := Callee.value (Operand.func 14), args := #[Operand.tmp 16], argTypes := #[25] }, 31, _, _, some (7, false)⟩) rfl (fun K hK => ?_) AllReadyH.nil
        go_simp
        go_at_call 14
        refine (Has.call C9 (ringcheck_is v ps _ (HV.out.later C9.low) _ HC.out)).mono ?_
        rintro e V10 ⟨rfl, C11⟩
        go_wp2_with fail
        clear hHeld
        refine hK.out _ _ (ms1.out _ C11.tail) (fun hHeld => ?_)
        clear hK K
        try simp only [List.setIfInBounds_toArray, List.set_cons_zero, List.set_cons_succ]
        refine wpAnyH_listed #[true, true, true, true, true, true, true, true, true, true, false, false] (by kernel_rfl) ?_
        refine wpAnyT_begin [10, 11] (by kernel_rfl) (by kernel_rfl) ?_
        refine wpAnyT_take (oi := ⟨some 18, Op.binOp BinOp.neq 31 (Operand.tmp 17) (Operand.const (Value.int IntKind.i64 0)) 31, 4, _, _, some (7, false)⟩) (v := .bool true) rfl (fun _ _ _ h => h) (by rfl) (by assumption) (fun wS hSw => ?_) ?_
        · (try dsimp only at hSw); go_simp
        simp only [Act.put, List.setIfInBounds_toArray, List.set_cons_zero, List.set_cons_succ]
        refine wpAnyT_take (oi := ⟨some 19, Op.pick (Operand.tmp 15) (Operand.const (Value.bool true)) (Operand.tmp 18), 4, _, _, none⟩) (v := .bool true) rfl (fun _ _ _ h => h) (by rfl) (by assumption) (fun wS hSw => ?_) ?_
        · (try dsimp only at hSw); go_simp
        simp only [Act.put, List.setIfInBounds_toArray, List.set_cons_zero, List.set_cons_succ]
        refine wpAnyT_end ?_
        refine wpAnyH_listed #[true, true, true, true, true, true, true, true, true, true, true, true] (by kernel_rfl) ?_
        refine wpAnyH_done (by kernel_rfl) ?_ _
        clear hHeld
        have D := C11.tail
        clear ms1
        have k0 := D.tail.fact (.head _) (i := 0) rfl
        have f0 := D.tail.free (.head _) (i := 0) rfl
        go_wp2_with fail
        have D2 := D.swap.set 0 (by simp) (.int .i64 (-1))
        generalize V10.setCell ⟨w.heap.size + 1, 0, none⟩ (.int .i64 (-1)) = W9 at *
        have d0 : W9.cell? ⟨w.heap.size + 1, 0, none⟩ = some (.int .i64 (-1)) := D2.fact (.head _) (i := 0) rfl
        exact bodyPost_ret (v := .int .i64 (-1)) (by simp [results, Try.results18, go_sem, d0]) rfl ⟨ret_i HR.out, D2.low⟩
      · skip
        have C13 := X0.push [.int .i64 p0, .int .i64 p1] 24
        go_simp
        change Has w _ (V0.alloc (.cells #[.int .i64 p0, .int .i64 p1] 24)) at C13
        generalize V0.alloc (.cells #[.int .i64 p0, .int .i64 p1] 24) = V12 at *
        generalize V0.heap.size = T14 at *
        clear hHeld
        refine hK.out _ _ (ms1.out _ C13.tail) (fun hHeld => ?_)
        clear hK K
        try simp only [List.setIfInBounds_toArray, List.set_cons_zero, List.set_cons_succ]
        refine wpAnyH_listed #[true, false, true, true, false, false, false, false, false, false, false, false] (by kernel_rfl) ?_
        refine wpAnyH_ready (rs := [1]) (by kernel_rfl) (by simp) ?_
        refine AllReadyH.cons (o := ⟨some 9, Op.call { callee := Callee.value (Operand.func 35), args := #[Operand.tmp 8], argTypes := #[25] }, 64, _, _, none⟩) rfl (fun K hK => ?_) AllReadyH.nil
        go_simp
        go_at_call 35
        refine (Has.call C13 (box_is v ps _ _ _ _ HBL.out _ (HV.out.later C13.low))).mono ?_
        rintro e V15 ⟨rfl, C16⟩
        go_wp2_with fail
        clear hHeld
        refine hK.out _ _ (ms1.out _ C16.tail) (fun hHeld => ?_)
        clear hK K
        try simp only [List.setIfInBounds_toArray, List.set_cons_zero, List.set_cons_succ]
        refine wpAnyH_listed #[true, true, true, true, false, false, false, false, false, false, false, false] (by kernel_rfl) ?_
        refine wpAnyH_ready (rs := [4]) (by kernel_rfl) (by simp) ?_
        refine AllReadyH.cons (o := ⟨some 12, Op.call { callee := Callee.value (Operand.func 35), args := #[Operand.tmp 11], argTypes := #[25] }, 64, _, _, none⟩) rfl (fun K hK => ?_) AllReadyH.nil
        go_simp
        go_at_call 35
        refine (Has.call C16 (box_is _ _ _ _ _ _ HBP.out _ (row_pt C16))).mono ?_
        rintro e V17 ⟨rfl, C18⟩
        go_wp2_with fail
        clear hHeld
        refine hK.out _ _ (ms1.out _ C18.tail) (fun hHeld => ?_)
        clear hK K
        try simp only [List.setIfInBounds_toArray, List.set_cons_zero, List.set_cons_succ]
        refine wpAnyH_listed #[true, true, true, true, true, false, false, false, false, false, false, false] (by kernel_rfl) ?_
        refine wpAnyH_ready (rs := [5]) (by kernel_rfl) (by simp) ?_
        refine AllReadyH.cons (o := ⟨some 13, Op.call { callee := Callee.value (Operand.func 34), args := #[Operand.tmp 9, Operand.tmp 12], argTypes := #[64, 64] }, 4, _, _, none⟩) rfl (fun K hK => ?_) AllReadyH.nil
        go_simp
        go_at_call 34
        refine (Has.call C18 (near_is _ _ _ _ _ _ _ _ _ HNR.out _)).mono ?_
        rintro e V19 ⟨rfl, C20⟩
        go_wp2_with fail
        clear hHeld
        refine hK.out _ _ (ms1.out _ C20.tail) (fun hHeld => ?_)
        clear hK K
        try simp only [List.setIfInBounds_toArray, List.set_cons_zero, List.set_cons_succ]
        refine wpAnyH_listed #[true, true, true, true, true, true, false, false, false, false, false, false] (by kernel_rfl) ?_
        refine wpAnyT_begin [6, 7, 8] (by kernel_rfl) (by kernel_rfl) ?_
        refine wpAnyT_take (oi := ⟨some 14, Op.unOp UnOp.not 4 (Operand.tmp 13), 4, _, _, none⟩) (v := .bool false) rfl (fun _ _ _ h => h) (by rfl) (by assumption) (fun wS hSw => ?_) ?_
        · (try dsimp only at hSw); go_simp
        simp only [Act.put, List.setIfInBounds_toArray, List.set_cons_zero, List.set_cons_succ]
        refine wpAnyT_take (oi := ⟨some 15, Op.move (Operand.tmp 14), 4, _, _, none⟩) (v := .bool false) rfl (fun _ _ _ h => h) (by rfl) (by assumption) (fun wS hSw => ?_) ?_
        · (try dsimp only at hSw); go_simp
        simp only [Act.put, List.setIfInBounds_toArray, List.set_cons_zero, List.set_cons_succ]
        refine wpAnyT_take (oi := ⟨some 16, Op.move (Operand.tmp 0), 25, _, _, some (7, false)⟩) (v := v) rfl (fun _ _ _ h => h) (by rfl) (by assumption) (fun wS hSw => ?_) ?_
        · (try dsimp only at hSw); go_simp
        simp only [Act.put, List.setIfInBounds_toArray, List.set_cons_zero, List.set_cons_succ]
        refine wpAnyT_end ?_
        refine wpAnyH_listed #[true, true, true, true, true, true, true, true, true, false, false, false] (by kernel_rfl) ?_
        refine wpAnyH_ready (rs := [9]) (by kernel_rfl) (by simp) ?_
        refine AllReadyH.cons (o := ⟨some 17, Op.call { callee := Callee.value (Operand.func 14), args := #[Operand.tmp 16], argTypes := #[25] }, 31, _, _, some (7, false)⟩) rfl (fun K hK => ?_) AllReadyH.nil
        go_simp
        go_at_call 14
        refine (Has.call C20 (ringcheck_is v ps _ (HV.out.later C20.low) _ HC.out)).mono ?_
        rintro e V21 ⟨rfl, C22⟩
        go_wp2_with fail
        clear hHeld
        refine hK.out _ _ (ms1.out _ C22.tail) (fun hHeld => ?_)
        clear hK K
        try simp only [List.setIfInBounds_toArray, List.set_cons_zero, List.set_cons_succ]
        refine wpAnyH_listed #[true, true, true, true, true, true, true, true, true, true, false, false] (by kernel_rfl) ?_
        refine wpAnyT_begin [10, 11] (by kernel_rfl) (by kernel_rfl) ?_
        refine wpAnyT_take (oi := ⟨some 18, Op.binOp BinOp.neq 31 (Operand.tmp 17) (Operand.const (Value.int IntKind.i64 0)) 31, 4, _, _, some (7, false)⟩) (v := .bool true) rfl (fun _ _ _ h => h) (by rfl) (by assumption) (fun wS hSw => ?_) ?_
        · (try dsimp only at hSw); go_simp
        simp only [Act.put, List.setIfInBounds_toArray, List.set_cons_zero, List.set_cons_succ]
        refine wpAnyT_take (oi := ⟨some 19, Op.pick (Operand.tmp 15) (Operand.const (Value.bool true)) (Operand.tmp 18), 4, _, _, none⟩) (v := .bool true) rfl (fun _ _ _ h => h) (by rfl) (by assumption) (fun wS hSw => ?_) ?_
        · (try dsimp only at hSw); go_simp
        simp only [Act.put, List.setIfInBounds_toArray, List.set_cons_zero, List.set_cons_succ]
        refine wpAnyT_end ?_
        refine wpAnyH_listed #[true, true, true, true, true, true, true, true, true, true, true, true] (by kernel_rfl) ?_
        refine wpAnyH_done (by kernel_rfl) ?_ _
        clear hHeld
        have D := C22.tail
        clear ms1
        have k0 := D.tail.fact (.head _) (i := 0) rfl
        have f0 := D.tail.free (.head _) (i := 0) rfl
        go_wp2_with fail
        have D2 := D.swap.set 0 (by simp) (.int .i64 (-1))
        generalize V21.setCell ⟨w.heap.size + 1, 0, none⟩ (.int .i64 (-1)) = W9 at *
        have d0 : W9.cell? ⟨w.heap.size + 1, 0, none⟩ = some (.int .i64 (-1)) := D2.fact (.head _) (i := 0) rfl
        exact bodyPost_ret (v := .int .i64 (-1)) (by simp [results, Try.results18, go_sem, d0]) rfl ⟨ret_i HR.out, D2.low⟩
    case pos =>
      subst hc0
      have hlen : ps.length < 40 := by
        rcases Nat.lt_or_ge ps.length 40 with h | h
        · exact h
        · have := rchk_many h; omega
      obtain ⟨r, hr⟩ : ∃ r, insV ps (p0, p1) = r := ⟨_, rfl⟩
      have HR := Lib.hid (show r = insC ps (p0, p1) by unfold insC insP; rw [if_neg (by rw [hN]; simp), if_neg (by rw [hc]; simp), hr])
      have HF := Lib.hid hr
      clear hN hc hr
      refine (callsIn_wide (n := 5)).1 ?_
      refine callsIn_of_wp_marks Try.func18 rfl trivial ?_ rfl
      simp only [Try.ntmps18, List.size_toArray, List.length_cons, List.length_nil, Nat.reduceAdd, Nat.reduceSub, Array.replicate_succ, Array.replicate_zero, List.push_toArray, List.append_toArray, List.nil_append, List.cons_append]
      gi_wp2_with fail
      change Has w _ ((w.alloc (.cells #[.int .i64 p0, .int .i64 p1] 24)).alloc (.cells #[.int .i64 0] 3)) at C0
      generalize (w.alloc (.cells #[.int .i64 p0, .int .i64 p1] 24)).alloc (.cells #[.int .i64 0] 3) = w1 at *
      rename_i K1 hK1
      have KEY : ∀ (q : Nat) (W : World), Has w [(w.heap.size, [.int .i64 p0, .int .i64 p1]), (w.heap.size + 1, [.int .i64 0])] W → K1 { tmps := #[v, .agg #[.int .i64 p0, .int .i64 p1], undef, .pointer (some ⟨w.heap.size, 0, none⟩), .pointer (some ⟨w.heap.size + 1, 0, none⟩), undef, undef, undef, v, .agg #[.int .i64 x0, .int .i64 y0, .int .i64 x1, .int .i64 y1], .agg #[.int .i64 p0, .int .i64 p1], .slice (some ⟨q, 0, none⟩) 1 1, .agg #[.int .i64 u0, .int .i64 v0, .int .i64 u1, .int .i64 v1], .bool true, .bool false, .bool false, v, .int .i64 0, .bool false, .bool false, undef, undef, undef, undef, undef, undef, undef, undef, undef, undef, undef, undef, undef, undef, undef, undef], defers := [] } W := by
        intro q W C1
        refine hK1 _ _ ?_
        clear hK1 C0
        have C2 := C1.push [.int .i64 0] 3
        change Has w _ (W.alloc (.cells #[.int .i64 0] 3)) at C2
        gi_wp2_with fail
        generalize W.alloc (.cells #[.int .i64 0] 3) = W2 at *
        generalize hN5 : W.heap.size = N5 at *
        clear C1 hN5
        refine ⟨trivial, (callsIn_wide.2 (rsegs_has C2 (HV.out.later C2.low))).mono ?_⟩
        rintro e w4 ⟨B, rfl, C4⟩
        clear C2
        gi_wp2_with fail
        have hB : B < w4.heap.size := C4.lt0
        have hN : N5 < w4.heap.size := C4.tail.lt0
        have hM : w.heap.size < w4.heap.size := C4.tail.tail.lt0
        have hM1 : w.heap.size + 1 < w4.heap.size := C4.tail.tail.tail.lt0
        refine range_sq (K := ps.length) (enc := fun k => #[.agg #[.int .i64 (pt ps k).1, .int .i64 (pt ps k).2], .agg #[.int .i64 (pt ps (nx ps.length k)).1, .int .i64 (pt ps (nx ps.length k)).2]]) (Lv := fun W => W.cell? ⟨B, 0, none⟩ = some v ∧ RowP W v ps) (w0 := w) rfl (enters_of Try.func58 (by kernel_rfl) rfl) (rseg_seq _ ps v B w) C4.low (fun _ => rfl)
          (fun k W => Has w [(B, [v]), (N5, [.int .i64 (sumT (rayK ps (p0, p1)) k)]), (w.heap.size, [.int .i64 p0, .int .i64 p1]), (w.heap.size + 1, [.int .i64 0])] W ∧ Hid (anyTo (onK ps (p0, p1)) k = false))
          (fun c k W => c = .ret ∧ Has w [(w.heap.size + 1, [.int .i64 0]), (B, [v]), (N5, [.int .i64 (sumT (rayK ps (p0, p1)) k)]), (w.heap.size, [.int .i64 p0, .int .i64 p1])] W ∧ Hid (onK ps (p0, p1) k = true))
          (fun k a' W => ∃ ga gb, a' = { tmps := #[v, .agg #[.int .i64 p0, .int .i64 p1], undef, .pointer (some ⟨w.heap.size, 0, none⟩), .pointer (some ⟨w.heap.size + 1, 0, none⟩), .pointer (some ⟨N5, 0, none⟩), .pointer (some ⟨ga, 0, none⟩), .pointer (some ⟨gb, 0, none⟩), v, .agg #[.int .i64 x0, .int .i64 y0, .int .i64 x1, .int .i64 y1], .agg #[.int .i64 p0, .int .i64 p1], .slice (some ⟨q, 0, none⟩) 1 1, .agg #[.int .i64 u0, .int .i64 v0, .int .i64 u1, .int .i64 v1], .bool true, .bool false, .bool false, v, .int .i64 0, .bool false, .bool false, v, .func (.func 58) #[] #[.pointer (some ⟨B, 0, none⟩)], .agg #[.int .i64 (pt ps k).1, .int .i64 (pt ps k).2], .agg #[.int .i64 (pt ps (nx ps.length k)).1, .int .i64 (pt ps (nx ps.length k)).2], undef, undef, undef, undef, undef, undef, undef, undef, undef, undef, undef, undef], defers := [] } ∧ Has w [(gb, [.int .i64 (pt ps (nx ps.length k)).1, .int .i64 (pt ps (nx ps.length k)).2]), (ga, [.int .i64 (pt ps k).1, .int .i64 (pt ps k).2]), (B, [v]), (N5, [.int .i64 (sumT (rayK ps (p0, p1)) k)]), (w.heap.size, [.int .i64 p0, .int .i64 p1]), (w.heap.size + 1, [.int .i64 0])] W ∧ Hid (anyTo (onK ps (p0, p1)) k = false))
          (fun k A W h g => ⟨h.1.later g, h.2⟩) (fun c k A W h g => ⟨h.1, h.2.1.later g, h.2.2⟩) (fun k A h => ⟨h.1.fact (.head _) (i := 0) rfl, HV.out.later h.1.low⟩)
          (fun k A l o o' h hl ho hc => ⟨h.1.putObj (by omega) ho hc, h.2⟩) (fun c k A l o o' h hl ho hc => ⟨h.1, h.2.1.putObj (by omega) ho hc, h.2.2⟩)
          (fun k a' A l o o' h hl ho hc => by obtain ⟨ga, gb, e, hh, hx⟩ := h; exact ⟨ga, gb, e, hh.putObj (by omega) ho hc, hx⟩) ⟨C4, Lib.hid rfl⟩ ?assign ?body ?done ?stop
        case assign =>
          rintro l k A T hk ⟨hI, hX⟩ hT
          generalize (pt ps k).1 = a0 at *
          generalize (pt ps k).2 = a1 at *
          generalize (pt ps (nx ps.length k)).1 = b0 at *
          generalize (pt ps (nx ps.length k)).2 = b1 at *
          generalize sumT (rayK ps (p0, p1)) k = SUM at *
          gi_wp2_with fail
          have E := ((HK.start (B := w4.heap.size) hI).push [.int .i64 a0, .int .i64 a1] 24).push [.int .i64 b0, .int .i64 b1] 24
          have Eh := E.h
          rw [size_alloc] at Eh
          exact hT _ _ E.k ⟨_, _, rfl, Eh, hX⟩
        case stop =>
          rintro D c k A hD hk ⟨rfl, hI, hX⟩ hK
          have hr : r = 0 := by rw [← HF.out]; unfold insV; rw [if_pos (anyTo_yes hX.out hk).symm]
          subst hr
          gi_wp2_with fail
          refine ⟨by simp, .inl ⟨_, _, rfl, run_takeDeferred hK, ?_⟩⟩
          have X3 := hI.putObj (ob' := .deferred none) (by omega) hK rfl
          have d0 : (A.putObj D (.deferred none)).cell? ⟨w.heap.size + 1, 0, none⟩ = some (.int .i64 0) := X3.fact (.head _) (i := 0) rfl
          exact ⟨.int .i64 0, by simp [results, Try.results18, go_sem, d0], ret_i HR.out, X3.low⟩
        case done =>
          rintro D A hD ⟨hI, hX⟩ hK
          have hr : r = if sumT (rayK ps (p0, p1)) ps.length = 0 then -1 else 1 := by rw [← HF.out]; unfold insV; rw [if_neg (by rw [hX.out]; simp)]
          generalize sumT (rayK ps (p0, p1)) ps.length = SUM at *
          have k0 := hI.tail.fact (.head _) (i := 0) rfl
          have k1 := hI.tail.tail.tail.fact (.head _) (i := 0) rfl
          have f1 := hI.tail.tail.tail.free (.head _) (i := 0) rfl
          have X0 := hI.perm (show List.Perm _ [(w.heap.size + 1, [.int .i64 0]), (B, [v]), (N5, [.int .i64 SUM]), (w.heap.size, [.int .i64 p0, .int .i64 p1])] from ((List.Perm.cons _ ((List.Perm.cons _ (.swap _ _ _)).trans (.swap _ _ _))).trans (.swap _ _ _)))
          by_cases hs : SUM = 0
          · rw [if_pos hs] at hr
            subst hr
            have sb : (SUM == 0) = true := by rw [beq_iff_eq]; exact hs
            clear hs
            gi_wp2_with fail
            have X2 := X0.set 0 (by simp) (.int .i64 (-1))
            have hK2 := (keeps_set (B := 0) A ⟨w.heap.size + 1, 0, none⟩ (.int .i64 (-1))).same D _ (Nat.zero_le _) hK rfl
            generalize A.setCell ⟨w.heap.size + 1, 0, none⟩ (.int .i64 (-1)) = A2 at *
            refine ⟨by simp, .inl ⟨_, _, rfl, run_takeDeferred hK2, ?_⟩⟩
            have X3 := X2.putObj (ob' := .deferred none) (by omega) hK2 rfl
            have d0 : (A2.putObj D (.deferred none)).cell? ⟨w.heap.size + 1, 0, none⟩ = some (.int .i64 (-1)) := X3.fact (.head _) (i := 0) rfl
            exact ⟨.int .i64 (-1), by simp [results, Try.results18, go_sem, d0], ret_i HR.out, X3.low⟩
          · rw [if_neg hs] at hr
            subst hr
            have sb : (SUM == 0) = false := by rw [beq_eq_false_iff_ne]; exact hs
            clear hs
            gi_wp2_with fail
            have X2 := X0.set 0 (by simp) (.int .i64 1)
            have hK2 := (keeps_set (B := 0) A ⟨w.heap.size + 1, 0, none⟩ (.int .i64 1)).same D _ (Nat.zero_le _) hK rfl
            generalize A.setCell ⟨w.heap.size + 1, 0, none⟩ (.int .i64 1) = A2 at *
            refine ⟨by simp, .inl ⟨_, _, rfl, run_takeDeferred hK2, ?_⟩⟩
            have X3 := X2.putObj (ob' := .deferred none) (by omega) hK2 rfl
            have d0 : (A2.putObj D (.deferred none)).cell? ⟨w.heap.size + 1, 0, none⟩ = some (.int .i64 1) := X3.fact (.head _) (i := 0) rfl
            exact ⟨.int .i64 1, by simp [results, Try.results18, go_sem, d0], ret_i HR.out, X3.low⟩
        case body =>
          rintro l k a' A hl hr ⟨ga, gb, rfl, hI, hX⟩ hk
          obtain ⟨z, hz⟩ : ∃ z, onK ps (p0, p1) k = z := ⟨_, rfl⟩
          have HZ := Lib.hid hz
          obtain ⟨rr, hrr⟩ : ∃ z, rayK ps (p0, p1) k = z := ⟨_, rfl⟩
          have hsum := raysum_bd ps (p0, p1) k
          have hrb : -1 ≤ rr ∧ rr ≤ 1 := by rw [← hrr]; exact rayOf_bd _ _ _ _ _ _
          have HS2 := Lib.hid (show sumT (rayK ps (p0, p1)) (k + 1) = sumT (rayK ps (p0, p1)) k + rr by rw [sumT, hrr])
          unfold onK at hz
          unfold rayK at hrr
          simp only at hz hrr
          generalize (pt ps k).1 = a0 at *
          generalize (pt ps k).2 = a1 at *
          generalize (pt ps (nx ps.length k)).1 = b0 at *
          generalize (pt ps (nx ps.length k)).2 = b1 at *
          generalize sumT (rayK ps (p0, p1)) k = SUM at *
          have HZZ := Lib.hid hz
          have HRR := Lib.hid hrr
          have wS : IntKind.i64.wrap (SUM + rr) = SUM + rr := IntWalk.i64_in _ (by omega)
          clear hz hrr
          obtain ⟨k0, k1⟩ := hI.pt
          obtain ⟨k2, k3⟩ := hI.tail.pt
          obtain ⟨k4, k5⟩ := hI.tail.tail.tail.tail.pt
          gi_wp2_with fail
          refine ⟨trivial, (round_call (HK.call (HK.start (B := w4.heap.size) hI) (on_is _ _ _ _ _ _ _ HZZ.out _))).mono ?_⟩
          rintro e A1 ⟨rfl, E⟩
          clear k0 k1 k2 k3 k4 k5
          cases z
          · gi_wp2_with fail
            have X0 := E.drew
            clear E hI
            refine calm_Z 6 (fun W => W.cell? ⟨ga, 0, none⟩ = some (.int .i64 a0) ∧ W.cell? ⟨ga, 1, none⟩ = some (.int .i64 a1) ∧ W.cell? ⟨gb, 0, none⟩ = some (.int .i64 b0) ∧ W.cell? ⟨gb, 1, none⟩ = some (.int .i64 b1) ∧ W.cell? ⟨N5, 0, none⟩ = some (.int .i64 SUM) ∧ W.cell? ⟨w.heap.size, 0, none⟩ = some (.int .i64 p0) ∧ W.cell? ⟨w.heap.size, 1, none⟩ = some (.int .i64 p1)) (by kernel_rfl) (defers_none _ (by kernel_rfl)) ?_
            have hHeld : (fun W => W.cell? ⟨ga, 0, none⟩ = some (.int .i64 a0) ∧ W.cell? ⟨ga, 1, none⟩ = some (.int .i64 a1) ∧ W.cell? ⟨gb, 0, none⟩ = some (.int .i64 b0) ∧ W.cell? ⟨gb, 1, none⟩ = some (.int .i64 b1) ∧ W.cell? ⟨N5, 0, none⟩ = some (.int .i64 SUM) ∧ W.cell? ⟨w.heap.size, 0, none⟩ = some (.int .i64 p0) ∧ W.cell? ⟨w.heap.size, 1, none⟩ = some (.int .i64 p1)) A1.drew := ⟨X0.h.tail.fact (.head _) (i := 0) rfl, X0.h.tail.fact (.head _) (i := 1) rfl, X0.h.fact (.head _) (i := 0) rfl, X0.h.fact (.head _) (i := 1) rfl, X0.h.tail.tail.tail.fact (.head _) (i := 0) rfl, X0.h.tail.tail.tail.tail.fact (.head _) (i := 0) rfl, X0.h.tail.tail.tail.tail.fact (.head _) (i := 1) rfl⟩
            generalize A1.drew = A3 at *
            try dsimp only at hHeld
            refine wpAnyZ_take (i := 0) (oi := ⟨some 28, Op.load 3 (Operand.tmp 5), 3, _, _, none⟩) (oz := ⟨none, Op.store 3 (Operand.tmp 5) (Operand.tmp 33), 0, _, _, none⟩) (v := .int .i64 SUM) rfl rfl (by kernel_rfl) (fun _ _ _ h => h) (by rfl) (by assumption) (fun wS hSw => ?_) ?_
            · (try dsimp only at hSw); go_simp
            simp only [Act.put, List.setIfInBounds_toArray, List.set_cons_zero, List.set_cons_succ]
            refine wpAnyZ_take (i := 1) (oi := ⟨some 29, Op.load 24 (Operand.tmp 6), 24, _, _, none⟩) (oz := ⟨none, Op.store 3 (Operand.tmp 5) (Operand.tmp 33), 0, _, _, none⟩) (v := .agg #[.int .i64 a0, .int .i64 a1]) rfl rfl (by kernel_rfl) (fun _ _ _ h => h) (by rfl) (by assumption) (fun wS hSw => ?_) ?_
            · (try dsimp only at hSw); go_simp
            simp only [Act.put, List.setIfInBounds_toArray, List.set_cons_zero, List.set_cons_succ]
            refine wpAnyZ_take (i := 2) (oi := ⟨some 30, Op.load 24 (Operand.tmp 7), 24, _, _, none⟩) (oz := ⟨none, Op.store 3 (Operand.tmp 5) (Operand.tmp 33), 0, _, _, none⟩) (v := .agg #[.int .i64 b0, .int .i64 b1]) rfl rfl (by kernel_rfl) (fun _ _ _ h => h) (by rfl) (by assumption) (fun wS hSw => ?_) ?_
            · (try dsimp only at hSw); go_simp
            simp only [Act.put, List.setIfInBounds_toArray, List.set_cons_zero, List.set_cons_succ]
            refine wpAnyZ_take (i := 3) (oi := ⟨some 31, Op.load 24 (Operand.tmp 3), 24, _, _, none⟩) (oz := ⟨none, Op.store 3 (Operand.tmp 5) (Operand.tmp 33), 0, _, _, none⟩) (v := .agg #[.int .i64 p0, .int .i64 p1]) rfl rfl (by kernel_rfl) (fun _ _ _ h => h) (by rfl) (by assumption) (fun wS hSw => ?_) ?_
            · (try dsimp only at hSw); go_simp
            simp only [Act.put, List.setIfInBounds_toArray, List.set_cons_zero, List.set_cons_succ]
            refine wpAnyZ_listed #[true, true, true, true, false, false, false] (by kernel_rfl) ?_
            refine wpAnyZ_one (i := 4) (o := ⟨some 32, Op.call { callee := Callee.value (Operand.func 20), args := #[Operand.tmp 29, Operand.tmp 30, Operand.tmp 31], argTypes := #[24, 24, 24] }, 3, _, _, none⟩) (by kernel_rfl) rfl (fun K hK => ?_)
            go_simp
            go_at_call 20
            refine (HK.call X0 (ray_is _ _ _ _ _ _ _ HRR.out _)).mono ?_
            rintro e A4 ⟨rfl, X1⟩
            go_wp2_with fail
            try clear hHeld
            refine hK.out _ _ (⟨X1.h.tail.fact (.head _) (i := 0) rfl, X1.h.tail.fact (.head _) (i := 1) rfl, X1.h.fact (.head _) (i := 0) rfl, X1.h.fact (.head _) (i := 1) rfl, X1.h.tail.tail.tail.fact (.head _) (i := 0) rfl, X1.h.tail.tail.tail.tail.fact (.head _) (i := 0) rfl, X1.h.tail.tail.tail.tail.fact (.head _) (i := 1) rfl⟩) (fun hHeld => ?_)
            clear hK K
            try simp only [List.setIfInBounds_toArray, List.set_cons_zero, List.set_cons_succ]
            refine wpAnyZ_listed #[true, true, true, true, true, false, false] (by kernel_rfl) ?_
            refine wpAnyZ_take (i := 5) (oi := ⟨some 33, Op.binOp BinOp.add 3 (Operand.tmp 28) (Operand.tmp 32) 3, 3, _, _, none⟩) (oz := ⟨none, Op.store 3 (Operand.tmp 5) (Operand.tmp 33), 0, _, _, none⟩) (v := .int .i64 (SUM + rr)) rfl rfl (by kernel_rfl) (fun _ _ _ h => h) (by rfl) (by assumption) (fun wS hSw => ?_) ?_
            · (try dsimp only at hSw); go_simp
            simp only [Act.put, List.setIfInBounds_toArray, List.set_cons_zero, List.set_cons_succ]
            refine wpAnyZ_listed #[true, true, true, true, true, true, false] (by kernel_rfl) ?_
            refine wpAnyZ_step (o := ⟨none, Op.store 3 (Operand.tmp 5) (Operand.tmp 33), 0, _, _, none⟩) (by kernel_rfl) (by decide) rfl (fun K hK => ?_)
            have k0 := X1.h.tail.tail.tail.fact (.head _) (i := 0) rfl
            have f0 := X1.h.tail.tail.tail.free (.head _) (i := 0) rfl
            go_simp
            have X3 := (HK.perm X1.tail.tail (.swap _ _ _)).set 0 (by simp) (.int .i64 (SUM + rr))
            generalize A4.setCell ⟨N5, 0, none⟩ (.int .i64 (SUM + rr)) = A6 at *
            clear k0 f0
            try clear hHeld
            refine hK.out _ _ ?_
            clear hK K
            try simp only [List.setIfInBounds_toArray, List.set_cons_zero, List.set_cons_succ]
            refine wpAnyH_listed #[true, true, true, true, true, true, true] (by kernel_rfl) ?_
            have hHeld := True.intro
            refine wpAnyH_done (by kernel_rfl) ?_ _
            exact ⟨X3.k, by rw [HS2.out]; exact X3.h.swap, Lib.hid (anyTo_no hX.out HZ.out)⟩
          · have k0 := E.h.tail.tail.tail.tail.tail.fact (.head _) (i := 0) rfl
            have f0 := E.h.tail.tail.tail.tail.tail.free (.head _) (i := 0) rfl
            gi_wp2_with fail
            have E2 := (HK.perm E.tail.tail (show List.Perm _ [(w.heap.size + 1, [.int .i64 0]), (B, [v]), (N5, [.int .i64 SUM]), (w.heap.size, [.int .i64 p0, .int .i64 p1])] from ((List.Perm.cons _ ((List.Perm.cons _ (.swap _ _ _)).trans (.swap _ _ _))).trans (.swap _ _ _)))).set 0 (by simp) (.int .i64 0)
            exact ⟨E2.k, rfl, E2.h, HZ⟩
      refine wpIn_wide.2 ?_
      have X0 := C0.drew
      have ms1 := Lib.hid (show ∀ w', Has w [(w.heap.size, [.int .i64 p0, .int .i64 p1]), (w.heap.size + 1, [.int .i64 0])] w' → (w'.cell? ⟨w.heap.size, 0, none⟩ = some (.int .i64 p0) ∧ w'.cell? ⟨w.heap.size, 1, none⟩ = some (.int .i64 p1) ∧ w'.cell? ⟨w.heap.size + 1, 0, none⟩ = some (.int .i64 0)) ∧ Has w [(w.heap.size, [.int .i64 p0, .int .i64 p1]), (w.heap.size + 1, [.int .i64 0])] w' from fun w' h => by
        exact ⟨⟨h.fact (.head _) (i := 0) rfl, h.fact (.head _) (i := 1) rfl, h.tail.fact (.head _) (i := 0) rfl⟩, h⟩)
      refine plain_calm (S := (fun w' => (w'.cell? ⟨w.heap.size, 0, none⟩ = some (.int .i64 p0) ∧ w'.cell? ⟨w.heap.size, 1, none⟩ = some (.int .i64 p1) ∧ w'.cell? ⟨w.heap.size + 1, 0, none⟩ = some (.int .i64 0)) ∧ Has w [(w.heap.size, [.int .i64 p0, .int .i64 p1]), (w.heap.size + 1, [.int .i64 0])] w')) (by kernel_rfl) (ms1.out _ X0) (fun hHeld => ?_)
      generalize w1.drew = V0 at *
      refine wpAnyT_begin [0, 2] (by kernel_rfl) (by kernel_rfl) ?_
      refine wpAnyT_take (oi := ⟨some 8, Op.move (Operand.tmp 0), 25, _, _, none⟩) (v := v) rfl (fun _ _ _ h => h) (by rfl) (by assumption) (fun wS hSw => ?_) ?_
      · (try dsimp only at hSw); go_simp
      simp only [Act.put, List.setIfInBounds_toArray, List.set_cons_zero, List.set_cons_succ]
      refine wpAnyT_take (oi := ⟨some 10, Op.load 24 (Operand.tmp 3), 24, _, _, none⟩) (v := .agg #[.int .i64 p0, .int .i64 p1]) rfl (fun _ _ _ h => h) (by rfl) (by assumption) (fun wS hSw => ?_) ?_
      · (try dsimp only at hSw); go_simp
      simp only [Act.put, List.setIfInBounds_toArray, List.set_cons_zero, List.set_cons_succ]
      refine wpAnyT_end ?_
      refine wpAnyH_listed #[true, false, true, false, false, false, false, false, false, false, false, false] (by kernel_rfl) ?_
      refine wpAnyH_ready (rs := [1, 3]) (by kernel_rfl) (by simp) ?_
      refine AllReadyH.cons (o := ⟨some 9, Op.call { callee := Callee.value (Operand.func 35), args := #[Operand.tmp 8], argTypes := #[25] }, 64, _, _, none⟩) rfl (fun K hK => ?_) (AllReadyH.cons (o := ⟨some 11, Op.buildSlice 25 1 #[(0, Operand.tmp 10)], 25, _, _, none⟩) rfl (fun K hK => ?_) AllReadyH.nil)
      · skip
        go_simp
        go_at_call 35
        refine (Has.call X0 (box_is v ps _ _ _ _ HBL.out _ (HV.out.later X0.low))).mono ?_
        rintro e V1 ⟨rfl, C2⟩
        go_wp2_with fail
        clear hHeld
        refine hK.out _ _ (ms1.out _ C2) (fun hHeld => ?_)
        clear hK K
        try simp only [List.setIfInBounds_toArray, List.set_cons_zero, List.set_cons_succ]
        refine wpAnyH_listed #[true, true, true, false, false, false, false, false, false, false, false, false] (by kernel_rfl) ?_
        refine wpAnyH_ready (rs := [3]) (by kernel_rfl) (by simp) ?_
        refine AllReadyH.cons (o := ⟨some 11, Op.buildSlice 25 1 #[(0, Operand.tmp 10)], 25, _, _, none⟩) rfl (fun K hK => ?_) AllReadyH.nil
        have C4 := C2.push [.int .i64 p0, .int .i64 p1] 24
        go_simp
        change Has w _ (V1.alloc (.cells #[.int .i64 p0, .int .i64 p1] 24)) at C4
        generalize V1.alloc (.cells #[.int .i64 p0, .int .i64 p1] 24) = V3 at *
        generalize V1.heap.size = T5 at *
        clear hHeld
        refine hK.out _ _ (ms1.out _ C4.tail) (fun hHeld => ?_)
        clear hK K
        try simp only [List.setIfInBounds_toArray, List.set_cons_zero, List.set_cons_succ]
        refine wpAnyH_listed #[true, true, true, true, false, false, false, false, false, false, false, false] (by kernel_rfl) ?_
        refine wpAnyH_ready (rs := [4]) (by kernel_rfl) (by simp) ?_
        refine AllReadyH.cons (o := ⟨some 12, Op.call { callee := Callee.value (Operand.func 35), args := #[Operand.tmp 11], argTypes := #[25] }, 64, _, _, none⟩) rfl (fun K hK => ?_) AllReadyH.nil
        go_simp
        go_at_call 35
        refine (Has.call C4 (box_is _ _ _ _ _ _ HBP.out _ (row_pt C4))).mono ?_
        rintro e V6 ⟨rfl, C7⟩
        go_wp2_with fail
        clear hHeld
        refine hK.out _ _ (ms1.out _ C7.tail) (fun hHeld => ?_)
        clear hK K
        try simp only [List.setIfInBounds_toArray, List.set_cons_zero, List.set_cons_succ]
        refine wpAnyH_listed #[true, true, true, true, true, false, false, false, false, false, false, false] (by kernel_rfl) ?_
        refine wpAnyH_ready (rs := [5]) (by kernel_rfl) (by simp) ?_
        refine AllReadyH.cons (o := ⟨some 13, Op.call { callee := Callee.value (Operand.func 34), args := #[Operand.tmp 9, Operand.tmp 12], argTypes := #[64, 64] }, 4, _, _, none⟩) rfl (fun K hK => ?_) AllReadyH.nil
        go_simp
        go_at_call 34
        refine (Has.call C7 (near_is _ _ _ _ _ _ _ _ _ HNR.out _)).mono ?_
        rintro e V8 ⟨rfl, C9⟩
        go_wp2_with fail
        clear hHeld
        refine hK.out _ _ (ms1.out _ C9.tail) (fun hHeld => ?_)
        clear hK K
        try simp only [List.setIfInBounds_toArray, List.set_cons_zero, List.set_cons_succ]
        refine wpAnyH_listed #[true, true, true, true, true, true, false, false, false, false, false, false] (by kernel_rfl) ?_
        refine wpAnyT_begin [6, 7, 8] (by kernel_rfl) (by kernel_rfl) ?_
        refine wpAnyT_take (oi := ⟨some 14, Op.unOp UnOp.not 4 (Operand.tmp 13), 4, _, _, none⟩) (v := .bool false) rfl (fun _ _ _ h => h) (by rfl) (by assumption) (fun wS hSw => ?_) ?_
        · (try dsimp only at hSw); go_simp
        simp only [Act.put, List.setIfInBounds_toArray, List.set_cons_zero, List.set_cons_succ]
        refine wpAnyT_take (oi := ⟨some 15, Op.move (Operand.tmp 14), 4, _, _, none⟩) (v := .bool false) rfl (fun _ _ _ h => h) (by rfl) (by assumption) (fun wS hSw => ?_) ?_
        · (try dsimp only at hSw); go_simp
        simp only [Act.put, List.setIfInBounds_toArray, List.set_cons_zero, List.set_cons_succ]
        refine wpAnyT_take (oi := ⟨some 16, Op.move (Operand.tmp 0), 25, _, _, some (7, false)⟩) (v := v) rfl (fun _ _ _ h => h) (by rfl) (by assumption) (fun wS hSw => ?_) ?_
        · (try dsimp only at hSw); go_simp
        simp only [Act.put, List.setIfInBounds_toArray, List.set_cons_zero, List.set_cons_succ]
        refine wpAnyT_end ?_
        refine wpAnyH_listed #[true, true, true, true, true, true, true, true, true, false, false, false] (by kernel_rfl) ?_
        refine wpAnyH_ready (rs := [9]) (by kernel_rfl) (by simp) ?_
        refine AllReadyH.cons (o := ⟨some 17, Op.call { callee := Callee.value (Operand.func 14), args := #[Operand.tmp 16], argTypes := #[25] }, 31, _, _, some (7, false)⟩) rfl (fun K hK => ?_) AllReadyH.nil
        go_simp
        go_at_call 14
        refine (Has.call C9 (ringcheck_is v ps _ (HV.out.later C9.low) _ HC.out)).mono ?_
        rintro e V10 ⟨rfl, C11⟩
        go_wp2_with fail
        clear hHeld
        refine hK.out _ _ (ms1.out _ C11.tail) (fun hHeld => ?_)
        clear hK K
        try simp only [List.setIfInBounds_toArray, List.set_cons_zero, List.set_cons_succ]
        refine wpAnyH_listed #[true, true, true, true, true, true, true, true, true, true, false, false] (by kernel_rfl) ?_
        refine wpAnyT_begin [10, 11] (by kernel_rfl) (by kernel_rfl) ?_
        refine wpAnyT_take (oi := ⟨some 18, Op.binOp BinOp.neq 31 (Operand.tmp 17) (Operand.const (Value.int IntKind.i64 0)) 31, 4, _, _, some (7, false)⟩) (v := .bool false) rfl (fun _ _ _ h => h) (by rfl) (by assumption) (fun wS hSw => ?_) ?_
        · (try dsimp only at hSw); go_simp
        simp only [Act.put, List.setIfInBounds_toArray, List.set_cons_zero, List.set_cons_succ]
        refine wpAnyT_take (oi := ⟨some 19, Op.pick (Operand.tmp 15) (Operand.const (Value.bool true)) (Operand.tmp 18), 4, _, _, none⟩) (v := .bool false) rfl (fun _ _ _ h => h) (by rfl) (by assumption) (fun wS hSw => ?_) ?_
        · (try dsimp only at hSw); go_simp
        simp only [Act.put, List.setIfInBounds_toArray, List.set_cons_zero, List.set_cons_succ]
        refine wpAnyT_end ?_
        refine wpAnyH_listed #[true, true, true, true, true, true, true, true, true, true, true, true] (by kernel_rfl) ?_
        refine wpAnyH_done (by kernel_rfl) ?_ _
        clear hHeld
        refine Calm.normal ?_
        exact KEY _ _ C11.tail
      · skip
        have C13 := X0.push [.int .i64 p0, .int .i64 p1] 24
        go_simp
        change Has w _ (V0.alloc (.cells #[.int .i64 p0, .int .i64 p1] 24)) at C13
        generalize V0.alloc (.cells #[.int .i64 p0, .int .i64 p1] 24) = V12 at *
        generalize V0.heap.size = T14 at *
        clear hHeld
        refine hK.out _ _ (ms1.out _ C13.tail) (fun hHeld => ?_)
        clear hK K
        try simp only [List.setIfInBounds_toArray, List.set_cons_zero, List.set_cons_succ]
        refine wpAnyH_listed #[true, false, true, true, false, false, false, false, false, false, false, false] (by kernel_rfl) ?_
        refine wpAnyH_ready (rs := [1]) (by kernel_rfl) (by simp) ?_
        refine AllReadyH.cons (o := ⟨some 9, Op.call { callee := Callee.value (Operand.func 35), args := #[Operand.tmp 8], argTypes := #[25] }, 64, _, _, none⟩) rfl (fun K hK => ?_) AllReadyH.nil
        go_simp
        go_at_call 35
        refine (Has.call C13 (box_is v ps _ _ _ _ HBL.out _ (HV.out.later C13.low))).mono ?_
        rintro e V15 ⟨rfl, C16⟩
        go_wp2_with fail
        clear hHeld
        refine hK.out _ _ (ms1.out _ C16.tail) (fun hHeld => ?_)
        clear hK K
        try simp only [List.setIfInBounds_toArray, List.set_cons_zero, List.set_cons_succ]
        refine wpAnyH_listed #[true, true, true, true, false, false, false, false, false, false, false, false] (by kernel_rfl) ?_
        refine wpAnyH_ready (rs := [4]) (by kernel_rfl) (by simp) ?_
        refine AllReadyH.cons (o := ⟨some 12, Op.call { callee := Callee.value (Operand.func 35), args := #[Operand.tmp 11], argTypes := #[25] }, 64, _, _, none⟩) rfl (fun K hK => ?_) AllReadyH.nil
        go_simp
        go_at_call 35
        refine (Has.call C16 (box_is _ _ _ _ _ _ HBP.out _ (row_pt C16))).mono ?_
        rintro e V17 ⟨rfl, C18⟩
        go_wp2_with fail
        clear hHeld
        refine hK.out _ _ (ms1.out _ C18.tail) (fun hHeld => ?_)
        clear hK K
        try simp only [List.setIfInBounds_toArray, List.set_cons_zero, List.set_cons_succ]
        refine wpAnyH_listed #[true, true, true, true, true, false, false, false, false, false, false, false] (by kernel_rfl) ?_
        refine wpAnyH_ready (rs := [5]) (by kernel_rfl) (by simp) ?_
        refine AllReadyH.cons (o := ⟨some 13, Op.call { callee := Callee.value (Operand.func 34), args := #[Operand.tmp 9, Operand.tmp 12], argTypes := #[64, 64] }, 4, _, _, none⟩) rfl (fun K hK => ?_) AllReadyH.nil
        go_simp
        go_at_call 34
        refine (Has.call C18 (near_is _ _ _ _ _ _ _ _ _ HNR.out _)).mono ?_
        rintro e V19 ⟨rfl, C20⟩
        go_wp2_with fail
        clear hHeld
        refine hK.out _ _ (ms1.out _ C20.tail) (fun hHeld => ?_)
        clear hK K
        try simp only [List.setIfInBounds_toArray, List.set_cons_zero, List.set_cons_succ]
        refine wpAnyH_listed #[true, true, true, true, true, true, false, false, false, false, false, false] (by kernel_rfl) ?_
        refine wpAnyT_begin [6, 7, 8] (by kernel_rfl) (by kernel_rfl) ?_
        refine wpAnyT_take (oi := ⟨some 14, Op.unOp UnOp.not 4 (Operand.tmp 13), 4, _, _, none⟩) (v := .bool false) rfl (fun _ _ _ h => h) (by rfl) (by assumption) (fun wS hSw => ?_) ?_
        · (try dsimp only at hSw); go_simp
        simp only [Act.put, List.setIfInBounds_toArray, List.set_cons_zero, List.set_cons_succ]
        refine wpAnyT_take (oi := ⟨some 15, Op.move (Operand.tmp 14), 4, _, _, none⟩) (v := .bool false) rfl (fun _ _ _ h => h) (by rfl) (by assumption) (fun wS hSw => ?_) ?_
        · (try dsimp only at hSw); go_simp
        simp only [Act.put, List.setIfInBounds_toArray, List.set_cons_zero, List.set_cons_succ]
        refine wpAnyT_take (oi := ⟨some 16, Op.move (Operand.tmp 0), 25, _, _, some (7, false)⟩) (v := v) rfl (fun _ _ _ h => h) (by rfl) (by assumption) (fun wS hSw => ?_) ?_
        · (try dsimp only at hSw); go_simp
        simp only [Act.put, List.setIfInBounds_toArray, List.set_cons_zero, List.set_cons_succ]
        refine wpAnyT_end ?_
        refine wpAnyH_listed #[true, true, true, true, true, true, true, true, true, false, false, false] (by kernel_rfl) ?_
        refine wpAnyH_ready (rs := [9]) (by kernel_rfl) (by simp) ?_
        refine AllReadyH.cons (o := ⟨some 17, Op.call { callee := Callee.value (Operand.func 14), args := #[Operand.tmp 16], argTypes := #[25] }, 31, _, _, some (7, false)⟩) rfl (fun K hK => ?_) AllReadyH.nil
        go_simp
        go_at_call 14
        refine (Has.call C20 (ringcheck_is v ps _ (HV.out.later C20.low) _ HC.out)).mono ?_
        rintro e V21 ⟨rfl, C22⟩
        go_wp2_with fail
        clear hHeld
        refine hK.out _ _ (ms1.out _ C22.tail) (fun hHeld => ?_)
        clear hK K
        try simp only [List.setIfInBounds_toArray, List.set_cons_zero, List.set_cons_succ]
        refine wpAnyH_listed #[true, true, true, true, true, true, true, true, true, true, false, false] (by kernel_rfl) ?_
        refine wpAnyT_begin [10, 11] (by kernel_rfl) (by kernel_rfl) ?_
        refine wpAnyT_take (oi := ⟨some 18, Op.binOp BinOp.neq 31 (Operand.tmp 17) (Operand.const (Value.int IntKind.i64 0)) 31, 4, _, _, some (7, false)⟩) (v := .bool false) rfl (fun _ _ _ h => h) (by rfl) (by assumption) (fun wS hSw => ?_) ?_
        · (try dsimp only at hSw); go_simp
        simp only [Act.put, List.setIfInBounds_toArray, List.set_cons_zero, List.set_cons_succ]
        refine wpAnyT_take (oi := ⟨some 19, Op.pick (Operand.tmp 15) (Operand.const (Value.bool true)) (Operand.tmp 18), 4, _, _, none⟩) (v := .bool false) rfl (fun _ _ _ h => h) (by rfl) (by assumption) (fun wS hSw => ?_) ?_
        · (try dsimp only at hSw); go_simp
        simp only [Act.put, List.setIfInBounds_toArray, List.set_cons_zero, List.set_cons_succ]
        refine wpAnyT_end ?_
        refine wpAnyH_listed #[true, true, true, true, true, true, true, true, true, true, true, true] (by kernel_rfl) ?_
        refine wpAnyH_done (by kernel_rfl) ?_ _
        clear hHeld
        refine Calm.normal ?_
        exact KEY _ _ C22.tail

end Go.Proofs.Ytmldgjhecoeldaa
