/- The next level of the reference's tree. -/
import Derived.Test.YtmgkbkpfhpkbcaaRTree
namespace Go.Proofs.Ytmgkbkpfhpkbcaa
open Go.RowKit Go.Lib

attribute [local go_sem] str

/-- A string is appended to a slice of the call's own, in a region that draws its order. -/
theorem step_app9 {ops : Array Oper} {o : Oper} {a : Act} {w w0 : World} {K : Act → World → Prop} {Q : Exit → Act → World → Prop} {E : Prop} (hgd : o.guard = none) (s x : Operand)
    (ho : o.op = .call { callee := .builtin .append, args := #[s, x], argTypes := #[28, 28] }) {v : Value} {n : Nat} {xs : List Value} (g : Grows w0 w) (hs : a.eval s = v) (hown : w.ownsRow w0.heap.size 9 1 v n xs)
    {b : Nat} (t : List UInt8) (hx : a.eval x = .slice (some ⟨b, 0, none⟩) 1 1) (hnew : w.cell? ⟨b, 0, none⟩ = some (.string ⟨t.toArray⟩)) (hn : n ≤ 100000)
    (h : ∀ ao cap w', w'.ownsRow w0.heap.size 9 1 (.slice ao (n + 1) cap) (n + 1) (xs ++ [str t]) → Grows w0 w' → (∀ c, c < w0.heap.size → ∀ {i : Nat}, w'.cell? ⟨c, i, none⟩ = w.cell? ⟨c, i, none⟩) → K (a.put o.dst (.slice ao (n + 1) cap)) w') :
    if Region.wanted o (yielded ops a.tmps) = true then Oper.wp Try.prog o a w K Q else E := by
  obtain ⟨i0, hi, hz0, hz1, hz2⟩ := info_parts info9
  refine step_append_lies w hgd s x 28 ho w0.heap.size 9 i0 (.string ⟨#[]⟩) 1 16 Try.underlying28 hi hz0 hz1 hz2 rfl (by decide) v n xs hs hown ⟨b, 0, none⟩ 1 1 [str t] hx rfl ?_ ?_ (by decide) (by unfold maxLen; omega) (by omega) g.size _ rfl (fun gg cap w' h1 h2 _ _ => h _ cap w' h1 (g.grown h2 g.size (fun k hk => (hown.lt k hk).1)) ?_)
  · intro j u hj
    match j, hj with
    | 0, hj => simp at hj; subst hj; rw [Addr.add_mid]; exact hnew
  · intro u hu
    simp at hu
    subst hu
    rfl
  · intro c hc i
    refine World.cell?_of_block (h2.block c (Nat.lt_of_lt_of_le hc g.size) fun e => ?_)
    have := (hown.lt c e.symm).1
    omega

theorem pair_snoc (ds : List (List UInt8)) (j : Nat) : strs ((List.range (j + 1)).map (pair ds)) = strs ((List.range j).map (pair ds)) ++ [str (pair ds j)] := by
  rw [List.range_succ, List.map_append]
  unfold strs
  rw [List.map_append]
  rfl

set_option linter.unusedSimpArgs false in
set_option maxHeartbeats 1000000 in
theorem rabove_own (v : Value) (ds : List (List UInt8)) (w : World) (hv : Row w v (strs ds)) (h8 : ∀ d ∈ ds, d.length = 8) (h32 : ds.length ≤ 32) :
    Calls Try.prog 40 #[v] w fun e w' => ∃ v' n, e = .returned v' ∧ w'.ownsRow w.heap.size 9 1 v' n (strs (upL ds)) ∧ Grows w w' := by
  obtain ⟨a, cap, rfl, hc1, hc2, hrow⟩ := hv
  rw [strs_length] at hc1
  rw [strs_length]
  have b0 : Grows w w := Below.refl _ _
  have o0 : w.ownsRow w.heap.size 9 1 (.slice none 0 0) 0 (strs ((List.range 0).map (pair ds))) := World.ownsRow_nil _ _ _ _
  go_enter Try.func40, Try.ntmps40
  go_wp2_with fail
  go_loopw [3, 4] (fun s i wr => ∃ k j : Nat, i = .int .i64 k ∧ Hid (k = 2 * j) ∧ k ≤ ds.length ∧ wr.ownsRow w.heap.size 9 1 s j (strs ((List.range j).map (pair ds))) ∧ Grows w wr) (fun _ i _ => ds.length + 2 - (RowKit.intOf i).toNat)
  case atStart => exact ⟨0, 0, rfl, Lib.hid rfl, Nat.zero_le _, o0, b0⟩
  case round =>
    clear b0 o0
    obtain ⟨k, j, rfl, hkj, hk, o1, b1⟩ := hrel
    have HS := Lib.hid (pair_snoc ds j)
    generalize hX : strs ((List.range j).map (pair ds)) = X0 at *
    have HX0 := Lib.hid hX
    clear hX
    obtain ⟨ao, cap2, rfl⟩ := owns_form o1
    by_cases hlt : k + 1 < ds.length
    · rcases hrow with h0 | ⟨b, o, rfl, hcell⟩
      · rw [show ds = [] from List.map_eq_nil_iff.1 h0] at hlt
        simp at hlt
      · have hlt0 : k < ds.length := by omega
        have hcell0 := hcell k (str ds[k]) (by unfold strs; rw [List.getElem?_map, List.getElem?_eq_getElem hlt0]; rfl)
        have hcell0' := hcell (k + 1) (str ds[k + 1]) (by unfold strs; rw [List.getElem?_map, List.getElem?_eq_getElem hlt]; rfl)
        have hbw : b < w.heap.size := World.block_lt_of_cell? w _ hcell0
        have c1 : wr.drew.cell? ⟨b, o + k, none⟩ = some (str ds[k]) := ((b1.drew).cell (World.block_lt_of_cell? w _ hcell0)).trans hcell0
        have c2 : wr.drew.cell? ⟨b, o + (k + 1), none⟩ = some (str ds[k + 1]) := ((b1.drew).cell (World.block_lt_of_cell? w _ hcell0')).trans hcell0'
        have l1 := h8 ds[k] (List.getElem_mem hlt0)
        have l2 := h8 ds[k + 1] (List.getElem_mem hlt)
        have hP : Hid (dig (4 :: (ds[k] ++ ds[k + 1])) = pair ds j) := Lib.hid (by
          unfold pair
          rw [← hkj.out, List.getElem?_eq_getElem hlt0, List.getElem?_eq_getElem hlt]
          rfl)
        have hj : j ≤ 100000 := by have := hkj.out; omega
        clear hcell hcell0 hcell0'
        unfold str at c1 c2
        generalize ds[k] = x at *
        generalize ds[k + 1] = y at *
        have hxy := Lib.hid (show (4 :: (x ++ y)).length ≤ 1000000 by simp; omega)
        have lx : x.length ≤ 8 := by omega
        have ly : y.length ≤ 8 := by omega
        clear l1 l2
        generalize pair ds j = P at *
        have B1 := Lib.hid (show ((⟨#[4]⟩ ++ ⟨x.toArray⟩ : ByteArray) ++ ⟨y.toArray⟩ : ByteArray) = ⟨(4 :: (x ++ y)).toArray⟩ by
          rw [show (⟨#[4]⟩ : ByteArray) = ⟨[4].toArray⟩ from rfl, ba_append, ba_append]; simp)
        have n1 : (0 : Int) ≤ (k : Int) := by omega
        have n2 : (k : Int) < (ds.length : Int) := by omega
        have n3 : (k : Int) + 1 < (ds.length : Int) := by omega
        have n4 : IntKind.i64.wrap ((k : Int) + 1) = (k : Int) + 1 := IntWalk.i64_in _ (by omega)
        have n5 : ((k : Int) + 1).toNat = k + 1 := by omega
        have n6 : (0 : Int) ≤ (k : Int) + 1 := by omega
        go_wp2_with fail
        refine wp_region_noPanic ?_
        refine wp_region_held_drew (S := fun W => W.cell? ⟨b, o + k, none⟩ = some (.string ⟨x.toArray⟩) ∧ W.cell? ⟨b, o + (k + 1), none⟩ = some (.string ⟨y.toArray⟩)) (by kernel_rfl) ⟨c1, c2⟩ (fun hHeld => ?_)
        refine wpAnyT_begin [0, 1, 2, 3, 4, 5, 6, 7, 8, 9, 10, 11] (by kernel_rfl) (by kernel_rfl) ?_
        refine wpAnyT_take (oi := ⟨some 12, Op.move (Operand.tmp 3), 28, _, _, none⟩) (v := .slice ao j cap2) rfl (fun _ _ _ h => h) (by rfl) (by assumption) (fun wS hSw => ?_) ?_
        · obtain ⟨hSw1, hSw2⟩ := hSw; go_simp <;> omega
        simp only [Act.put, List.setIfInBounds_toArray, List.set_cons_zero, List.set_cons_succ]
        refine wpAnyT_take (oi := ⟨some 13, Op.move (Operand.tmp 0), 28, _, _, none⟩) (v := .slice (some ⟨b, o, none⟩) ds.length cap) rfl (fun _ _ _ h => h) (by rfl) (by assumption) (fun wS hSw => ?_) ?_
        · obtain ⟨hSw1, hSw2⟩ := hSw; go_simp <;> omega
        simp only [Act.put, List.setIfInBounds_toArray, List.set_cons_zero, List.set_cons_succ]
        refine wpAnyT_take (oi := ⟨some 14, Op.move (Operand.tmp 4), 3, _, _, none⟩) (v := .int .i64 (k : Int)) rfl (fun _ _ _ h => h) (by rfl) (by assumption) (fun wS hSw => ?_) ?_
        · obtain ⟨hSw1, hSw2⟩ := hSw; go_simp <;> omega
        simp only [Act.put, List.setIfInBounds_toArray, List.set_cons_zero, List.set_cons_succ]
        refine wpAnyT_take (oi := ⟨some 15, Op.indexAddr 28 (Operand.tmp 13) (Operand.tmp 14), 0, _, _, none⟩) (v := .pointer (some ⟨b, o + k, none⟩)) rfl (fun _ _ _ h => h) (by rfl) (by assumption) (fun wS hSw => ?_) ?_
        · obtain ⟨hSw1, hSw2⟩ := hSw; go_simp <;> omega
        simp only [Act.put, List.setIfInBounds_toArray, List.set_cons_zero, List.set_cons_succ]
        refine wpAnyT_take (oi := ⟨some 16, Op.load 9 (Operand.tmp 15), 9, _, _, none⟩) (v := .string ⟨x.toArray⟩) rfl (fun _ _ _ h => h) (by rfl) (by assumption) (fun wS hSw => ?_) ?_
        · obtain ⟨hSw1, hSw2⟩ := hSw; go_simp <;> omega
        simp only [Act.put, List.setIfInBounds_toArray, List.set_cons_zero, List.set_cons_succ]
        refine wpAnyT_take (oi := ⟨some 17, Op.binOp BinOp.add 9 (Operand.const (Value.string { data := #[4] })) (Operand.tmp 16) 9, 9, _, _, none⟩) (v := .string (⟨#[4]⟩ ++ ⟨x.toArray⟩)) rfl (fun _ _ _ h => h) (by rfl) (by assumption) (fun wS hSw => ?_) ?_
        · obtain ⟨hSw1, hSw2⟩ := hSw; go_simp <;> omega
        simp only [Act.put, List.setIfInBounds_toArray, List.set_cons_zero, List.set_cons_succ]
        refine wpAnyT_take (oi := ⟨some 18, Op.move (Operand.tmp 0), 28, _, _, none⟩) (v := .slice (some ⟨b, o, none⟩) ds.length cap) rfl (fun _ _ _ h => h) (by rfl) (by assumption) (fun wS hSw => ?_) ?_
        · obtain ⟨hSw1, hSw2⟩ := hSw; go_simp <;> omega
        simp only [Act.put, List.setIfInBounds_toArray, List.set_cons_zero, List.set_cons_succ]
        refine wpAnyT_take (oi := ⟨some 19, Op.move (Operand.tmp 4), 3, _, _, none⟩) (v := .int .i64 (k : Int)) rfl (fun _ _ _ h => h) (by rfl) (by assumption) (fun wS hSw => ?_) ?_
        · obtain ⟨hSw1, hSw2⟩ := hSw; go_simp <;> omega
        simp only [Act.put, List.setIfInBounds_toArray, List.set_cons_zero, List.set_cons_succ]
        refine wpAnyT_take (oi := ⟨some 20, Op.binOp BinOp.add 3 (Operand.tmp 19) (Operand.const (Value.int IntKind.i64 1)) 3, 3, _, _, none⟩) (v := .int .i64 ((k : Int) + 1)) rfl (fun _ _ _ h => h) (by rfl) (by assumption) (fun wS hSw => ?_) ?_
        · obtain ⟨hSw1, hSw2⟩ := hSw; go_simp <;> omega
        simp only [Act.put, List.setIfInBounds_toArray, List.set_cons_zero, List.set_cons_succ]
        refine wpAnyT_take (oi := ⟨some 21, Op.indexAddr 28 (Operand.tmp 18) (Operand.tmp 20), 0, _, _, none⟩) (v := .pointer (some ⟨b, o + (k + 1), none⟩)) rfl (fun _ _ _ h => h) (by rfl) (by assumption) (fun wS hSw => ?_) ?_
        · obtain ⟨hSw1, hSw2⟩ := hSw; go_simp <;> omega
        simp only [Act.put, List.setIfInBounds_toArray, List.set_cons_zero, List.set_cons_succ]
        refine wpAnyT_take (oi := ⟨some 22, Op.load 9 (Operand.tmp 21), 9, _, _, none⟩) (v := .string ⟨y.toArray⟩) rfl (fun _ _ _ h => h) (by rfl) (by assumption) (fun wS hSw => ?_) ?_
        · obtain ⟨hSw1, hSw2⟩ := hSw; go_simp <;> omega
        simp only [Act.put, List.setIfInBounds_toArray, List.set_cons_zero, List.set_cons_succ]
        refine wpAnyT_take (oi := ⟨some 23, Op.binOp BinOp.add 9 (Operand.tmp 17) (Operand.tmp 22) 9, 9, _, _, none⟩) (v := .string ((⟨#[4]⟩ ++ ⟨x.toArray⟩) ++ ⟨y.toArray⟩)) rfl (fun _ _ _ h => h) (by rfl) (by assumption) (fun wS hSw => ?_) ?_
        · obtain ⟨hSw1, hSw2⟩ := hSw; go_simp <;> omega
        simp only [Act.put, List.setIfInBounds_toArray, List.set_cons_zero, List.set_cons_succ]
        refine wpAnyT_end ?_
        refine wpAnyH_listed #[true, true, true, true, true, true, true, true, true, true, true, true, false, false, false, false] (by kernel_rfl) ?_
        refine wpAnyH_ready (rs := [12]) (by kernel_rfl) (by simp) ?_
        refine AllReadyH.cons (o := ⟨some 24, Op.call { callee := Callee.value (Operand.func 13), args := #[Operand.tmp 23], argTypes := #[9] }, 9, _, _, none⟩) rfl (fun K hK => ?_) AllReadyH.nil
        rw [B1.out]
        go_simp
        go_at_call 13
        refine (rof_any (4 :: (x ++ y)) _ hxy.out).mono ?_
        rintro e w2 ⟨rfl, g2⟩
        rw [hP.out]
        have b2 : Grows w w2 := Grows.then b1.drew g2
        have o2 := owns_later (owns_later o1 (Below.refl _ _).drew) g2
        have c2 := (g2.cell (World.block_lt_of_cell? wr.drew _ c2)).trans c2
        have c1 := (g2.cell (World.block_lt_of_cell? wr.drew _ c1)).trans c1
        go_wp2_with fail
        clear hHeld
        refine hK.out _ _ (⟨c1, c2⟩) (fun hHeld => ?_)
        clear hK K
        try simp only [Act.put, List.setIfInBounds_toArray, List.set_cons_zero, List.set_cons_succ]
        refine wpAnyH_ready (rs := [13]) (by kernel_rfl) (by simp) ?_
        refine AllReadyH.cons (o := ⟨some 25, Op.buildSlice 28 1 #[(0, Operand.tmp 24)], 28, _, _, none⟩) rfl (fun K hK => ?_) AllReadyH.nil
        go_simp
        clear hHeld
        refine hK.out _ _ (⟨by rw [World.cell?_alloc_lt _ _ _ (World.block_lt_of_cell? _ _ c1)]; exact c1, by rw [World.cell?_alloc_lt _ _ _ (World.block_lt_of_cell? _ _ c2)]; exact c2⟩) (fun hHeld => ?_)
        clear hK K
        try simp only [Act.put, List.setIfInBounds_toArray, List.set_cons_zero, List.set_cons_succ]
        refine wpAnyH_ready (rs := [14]) (by kernel_rfl) (by simp) ?_
        refine AllReadyH.cons (o := ⟨some 26, Op.call { callee := Callee.builtin Builtin.append, args := #[Operand.tmp 12, Operand.tmp 25], argTypes := #[28, 28] }, 28, _, _, none⟩) rfl (fun K hK => ?_) AllReadyH.nil
        refine step_app9 rfl _ _ rfl (b2.alloc b2.size _) rfl (owns_later o2 ((Below.refl _ _).alloc (Nat.le_refl _) _)) P rfl (World.cell?_alloc_new w2 #[.string ⟨P.toArray⟩] 9 0) (by omega) ?_
        intro ao4 cap4 w4 o4 b4 h4
        clear hHeld
        refine hK.out _ _ (⟨(h4 b hbw).trans (by rw [World.cell?_alloc_lt _ _ _ (World.block_lt_of_cell? _ _ c1)]; exact c1), (h4 b hbw).trans (by rw [World.cell?_alloc_lt _ _ _ (World.block_lt_of_cell? _ _ c2)]; exact c2)⟩) (fun hHeld => ?_)
        clear hK K
        try simp only [Act.put, List.setIfInBounds_toArray, List.set_cons_zero, List.set_cons_succ]
        refine wpAnyT_begin [15] (by kernel_rfl) (by kernel_rfl) ?_
        refine wpAnyT_take (oi := ⟨some 3, Op.assign (Operand.tmp 26), 28, _, _, none⟩) (v := .slice ao4 (j + 1) cap4) rfl (fun _ _ _ h => h) (by rfl) (by assumption) (fun wS hSw => ?_) ?_
        · obtain ⟨hSw1, hSw2⟩ := hSw; go_simp <;> omega
        simp only [Act.put, List.setIfInBounds_toArray, List.set_cons_zero, List.set_cons_succ]
        refine wpAnyT_end ?_
        refine wpAnyH_done (by kernel_rfl) ?_ _
        refine NoPanic.normal ?_
        go_wp2_with fail
        go_roundw
        case rel => exact ⟨k + 2, j + 1, by go_num, Lib.hid (by have := hkj.out; omega), by omega, by rw [HS.out]; exact o4, b4⟩
        case measure => simp [RowKit.intOf]; omega
    · have HJ := Lib.hid (show j = ds.length / 2 by have := hkj.out; omega)
      have HE := Lib.hid (show X0 = strs (upL ds) by rw [← HX0.out, HJ.out]; rfl)
      go_wp2_with fail
      go_ret
      exact ⟨_, _, rfl, by rw [← HE.out]; exact o1, b1⟩

theorem rabove_any (v : Value) (ds : List (List UInt8)) (w : World) (hv : Row w v (strs ds)) (h8 : ∀ d ∈ ds, d.length = 8) (h32 : ds.length ≤ 32) :
    Calls Try.prog 40 #[v] w fun e w' => ∃ v', e = .returned v' ∧ Row w' v' (strs (upL ds)) ∧ Grows w w' := by
  refine (rabove_own v ds w hv h8 h32).mono ?_
  rintro e w' ⟨v', n, rfl, o, g⟩
  exact ⟨v', rfl, Row.of_owns o, g⟩

end Go.Proofs.Ytmgkbkpfhpkbcaa
