/- put of the reference: a number more in an increasing list. -/
import Derived.Test.YtoaldbjcpfkcjaaGreatcPm
namespace Go.Proofs.YtoaldbjcpfkcjaaGreat.G
open Go.RowKit Go.Lib Go.Sort

theorem Row.droptI {w : World} {g n c : Nat} {xs : List Int} (h : Row tI w (.slice (some ⟨g, 0, none⟩) n c) xs) (k : Nat) (hk : k ≤ xs.length) {oo : Nat} (ho : oo = k ∨ n = k) : Row tI w (.slice (some ⟨g, oo, none⟩) (n - k) (c - k)) (xs.drop k) :=
 h.dropAt tI_ok k hk (by rw [show k * tI.k = k by show k * 1 = k; omega]; exact ho)
set_option maxRecDepth 100000 in
set_option maxHeartbeats 8000000 in
theorem put_any {b : Nat} (v : Value) (xs : List Int) (x : Int) (wb : World) (hv : Own tI b wb v xs) (hl : xs.length ≤ 1000000) :
  Calls Tryz.prog 44 #[v, .int .i64 x] wb fun e w' => (∃ u, e = .returned u ∧ Own tI wb.heap.size w' u (putL xs x)) ∧ Grows wb w' := by
 have HL := Lib.hid hv.row
 rcases hv.2 with ⟨rfl, h2⟩ | ⟨gl, c, cur, rfl, -, -, hc1, hc2, -⟩
 ·obtain rfl : xs = [] := List.eq_nil_of_length_eq_zero h2
  have HE := Lib.hid (show putL [] x = ([] : List Int).take 0 ++ (x :: ([] : List Int).drop 0) from rfl)
  clear hv h2
  go_enter Tryz.func44, Tryz.ntmps44
  go_wp2_with fail
  go_loop [5] (fun i => i = .int .i64 0) (fun i => (RowKit.intOf i).toNat)
  case atStart => rfl
  case round =>
   obtain rfl := hrel
   go_upto_region 4 with fail
   refine wp_region_held_drew (S := (fun wx => Grows wb wx)) (by kernel_rfl) ((Below.refl _ wb).drew) (fun hHeld => ?_)
   have G : Grows wb wb.drew := (Below.refl _ wb).drew
   refine tbA [1, 2, 3, 5, 8, 9, 10] ?_
   refine tkA (.slice none 0 0) (oi := ⟨some 22, .move (.tmp 0), 22, _, _, none⟩) ?_
   simp only [Act.put, pA, pB, pC]
   refine tkA (.int .i64 0) (oi := ⟨some 23, .move (.tmp 5), 3, _, _, none⟩) ?_
   simp only [Act.put, pA, pB, pC]
   refine wpAnyT_take (oi := ⟨some 24, .slice 22 (.tmp 22) none (some (.tmp 23)) none, 22, _, _, none⟩) (v := .slice none 0 0) rfl (fun _ _ _ h => h) (by rfl) (by assumption) (fun wS hSw => ?_) ?_
   ·(try dsimp only at hSw); go_simp; try (first | (intro h; exfalso; omega) | (split <;> rename_i hz <;> first | rw [hoo1 hz] | rw [hoo2 hz]))
   simp only [Act.put, pA, pB, pC]
   refine tkA (.int .i64 x) (oi := ⟨some 26, .move (.tmp 1), 3, _, _, none⟩) ?_
   simp only [Act.put, pA, pB, pC]
   refine tkA (.slice none 0 0) (oi := ⟨some 29, .move (.tmp 0), 22, _, _, none⟩) ?_
   simp only [Act.put, pA, pB, pC]
   refine tkA (.int .i64 0) (oi := ⟨some 30, .move (.tmp 5), 3, _, _, none⟩) ?_
   simp only [Act.put, pA, pB, pC]
   refine wpAnyT_take (oi := ⟨some 31, .slice 22 (.tmp 29) (some (.tmp 30)) none none, 22, _, _, none⟩) (v := .slice none 0 0) rfl (fun _ _ _ h => h) (by rfl) (by assumption) (fun wS hSw => ?_) ?_
   ·(try dsimp only at hSw); go_simp; try (first | (intro h; exfalso; omega) | (split <;> rename_i hz <;> first | rw [hoo1 hz] | rw [hoo2 hz]))
   simp only [Act.put, pA, pB, pC]
   refine teA ?_
   refine tlA #[false, true, true, true, false, true, false, false, true, true, true, false, false] ?_
   generalize wb.drew = w0 at *
   refine trA [0, 6] ?_
   refine AllReadyH.cons (o := ⟨some 21, .buildSlice 22 0 #[], 22, _, _, none⟩) rfl (fun K hK => ?_) ?_
   ·go_simp
    have OA := own_empty (T := tI) (b := wb.heap.size) w0 3 G.size
    have G1 := G.then ((Below.refl _ w0).alloc (Nat.le_refl _) (.cells #[] 3))
    clear G
    have G := G1
    clear G1
    have hPA : w0.heap.size = w0.heap.size := rfl
    obtain ⟨PA, hPA⟩ : ∃ PA, w0.heap.size = PA := ⟨_, rfl⟩
    rw [hPA] at OA ⊢
    have hlA : PA < (w0.alloc (.cells #[] 3)).heap.size := by rw [size_alloc]; omega
    generalize w0.alloc (.cells #[] 3) = WA at *
    clear hPA
    clear hHeld
    refine hK.out _ _ (G) (fun hHeld => ?_)
    clear hK K
    try simp only [List.setIfInBounds_toArray, List.set_cons_zero]
    refine tlA #[true, true, true, true, false, true, false, false, true, true, true, false, false] ?_
    refine trA [4, 6] ?_
    refine AllReadyH.cons (o := ⟨some 25, .call { callee := .builtin .append, args := #[.tmp 21, .tmp 24], argTypes := #[22, 22] }, 22, _, _, none⟩) rfl (fun K hK => ?_) ?_
    ·refine step_append tI_ok rfl _ _ rfl rfl OA rfl (Row.nil _) (by first | (simp; done) | (simp only [List.length_nil, List.length_take]; omega)) G.size ?_
     intro v1 WB OB hGB _
     have G1 := grow_append G OA (Nat.le_refl _) hGB
     rw [List.nil_append] at OB
     clear hlA
     clear G OA hGB
     have G := G1
     clear G1
     clear hHeld
     refine hK.out _ _ (G) (fun hHeld => ?_)
     clear hK K
     try simp only [pA, pB, pC]
     refine tlA #[true, true, true, true, true, true, false, false, true, true, true, false, false] ?_
     refine trA [6] ?_
     refine AllReadyH.cons (o := ⟨some 27, .buildSlice 22 1 #[(0, .tmp 26)], 22, _, _, none⟩) rfl (fun K hK => ?_) AllReadyH.nil
     go_simp
     have RC : Row tI (WB.alloc (.cells #[.int .i64 x] 3)) (.slice (some ⟨WB.heap.size, 0, none⟩) 1 1) [x] := row_one (T := tI) WB 3 x _ rfl
     have G1 := G.then ((Below.refl _ WB).alloc (Nat.le_refl _) (.cells #[.int .i64 x] 3))
     clear G
     have G := G1
     clear G1
     have OB1 := OB.later ((Below.refl _ WB).alloc (Nat.le_refl _) (.cells #[.int .i64 x] 3))
     clear OB
     have OB := OB1
     clear OB1
     obtain ⟨PC, hPC⟩ : ∃ PC, WB.heap.size = PC := ⟨_, rfl⟩
     rw [hPC] at RC ⊢
     generalize WB.alloc (.cells #[.int .i64 x] 3) = WC at *
     clear hPC
     clear hHeld
     refine hK.out _ _ (G) (fun hHeld => ?_)
     clear hK K
     try simp only [pA, pB, pC]
     refine tlA #[true, true, true, true, true, true, true, false, true, true, true, false, false] ?_
     refine trA [7] ?_
     refine AllReadyH.cons (o := ⟨some 28, .call { callee := .builtin .append, args := #[.tmp 25, .tmp 27], argTypes := #[22, 22] }, 22, _, _, none⟩) rfl (fun K hK => ?_) AllReadyH.nil
     refine step_append tI_ok rfl _ _ rfl rfl OB rfl RC (by first | (simp; done) | (simp only [List.length_singleton, List.length_take]; omega)) G.size ?_
     intro v2 WD OD hGD _
     have G1 := grow_append G OB (Nat.le_refl _) hGD
     clear G OB RC hGD
     have G := G1
     clear G1
     clear hHeld
     refine hK.out _ _ (G) (fun hHeld => ?_)
     clear hK K
     try simp only [pA, pB, pC]
     refine tlA #[true, true, true, true, true, true, true, true, true, true, true, false, false] ?_
     refine trA [11] ?_
     refine AllReadyH.cons (o := ⟨some 32, .call { callee := .builtin .append, args := #[.tmp 28, .tmp 31], argTypes := #[22, 22] }, 22, _, _, none⟩) rfl (fun K hK => ?_) AllReadyH.nil
     refine step_append tI_ok rfl _ _ rfl rfl OD rfl (Row.nil _) (by first | (simp; done) | (simp only [List.length_append, List.length_singleton, List.length_take, List.length_drop, HN.out]; omega)) G.size ?_
     intro v3 WE OE hGE _
     have G1 := grow_append G OD (Nat.le_refl _) hGE
     clear G OD hGE
     have G := G1
     clear G1
     clear hHeld
     refine hK.out _ _ (G) (fun hHeld => ?_)
     clear hK K
     try simp only [pA, pB, pC]
     refine tlA #[true, true, true, true, true, true, true, true, true, true, true, true, false] ?_
     refine trA [12] ?_
     refine AllReadyH.cons (o := ⟨some 4, .assign (.tmp 32), 22, _, _, none⟩) rfl (fun K hK => ?_) AllReadyH.nil
     go_wp2_with fail
     clear hHeld
     refine hK.out _ _ (G) (fun hHeld => ?_)
     clear hK K
     try simp only [pA, pB, pC]
     refine tlA #[true, true, true, true, true, true, true, true, true, true, true, true, true] ?_
     refine wpAnyH_done (by kernel_rfl) ?_ _
     clear hHeld
     go_wp2_with fail
     go_ret
     exact ⟨⟨_, rfl, by rw [HE.out]; rw [List.append_assoc] at OE; exact OE⟩, G⟩
    refine AllReadyH.cons (o := ⟨some 27, .buildSlice 22 1 #[(0, .tmp 26)], 22, _, _, none⟩) rfl (fun K hK => ?_) AllReadyH.nil
    go_simp
    have RC : Row tI (WA.alloc (.cells #[.int .i64 x] 3)) (.slice (some ⟨WA.heap.size, 0, none⟩) 1 1) [x] := row_one (T := tI) WA 3 x _ rfl
    have G1 := G.then ((Below.refl _ WA).alloc (Nat.le_refl _) (.cells #[.int .i64 x] 3))
    clear G
    have G := G1
    clear G1
    have OA1 := OA.later ((Below.refl _ WA).alloc (Nat.le_refl _) (.cells #[.int .i64 x] 3))
    clear OA
    have OA := OA1
    clear OA1
    obtain ⟨PC, hPC⟩ : ∃ PC, WA.heap.size = PC := ⟨_, rfl⟩
    rw [hPC] at RC ⊢
    have hne : PC ≠ PA := by omega
    generalize WA.alloc (.cells #[.int .i64 x] 3) = WC at *
    clear hPC
    clear hlA
    clear hHeld
    refine hK.out _ _ (G) (fun hHeld => ?_)
    clear hK K
    try simp only [pA, pB, pC]
    refine tlA #[true, true, true, true, false, true, true, false, true, true, true, false, false] ?_
    refine trA [4] ?_
    refine AllReadyH.cons (o := ⟨some 25, .call { callee := .builtin .append, args := #[.tmp 21, .tmp 24], argTypes := #[22, 22] }, 22, _, _, none⟩) rfl (fun K hK => ?_) AllReadyH.nil
    refine step_append tI_ok rfl _ _ rfl rfl OA rfl (Row.nil _) (by first | (simp; done) | (simp only [List.length_nil, List.length_take]; omega)) G.size ?_
    intro v1 WB OB hGB _
    have G1 := grow_append G OA (Nat.le_refl _) hGB
    rw [List.nil_append] at OB
    have RC1 := RC.kept hGB (by simp only [Value.ownBlock]; intro e; injection e with e; exact hne e.symm)
    clear RC hne
    have RC := RC1
    clear RC1
    clear G OA hGB
    have G := G1
    clear G1
    clear hHeld
    refine hK.out _ _ (G) (fun hHeld => ?_)
    clear hK K
    try simp only [pA, pB, pC]
    refine tlA #[true, true, true, true, true, true, true, false, true, true, true, false, false] ?_
    refine trA [7] ?_
    refine AllReadyH.cons (o := ⟨some 28, .call { callee := .builtin .append, args := #[.tmp 25, .tmp 27], argTypes := #[22, 22] }, 22, _, _, none⟩) rfl (fun K hK => ?_) AllReadyH.nil
    refine step_append tI_ok rfl _ _ rfl rfl OB rfl RC (by first | (simp; done) | (simp only [List.length_singleton, List.length_take]; omega)) G.size ?_
    intro v2 WD OD hGD _
    have G1 := grow_append G OB (Nat.le_refl _) hGD
    clear G OB RC hGD
    have G := G1
    clear G1
    clear hHeld
    refine hK.out _ _ (G) (fun hHeld => ?_)
    clear hK K
    try simp only [pA, pB, pC]
    refine tlA #[true, true, true, true, true, true, true, true, true, true, true, false, false] ?_
    refine trA [11] ?_
    refine AllReadyH.cons (o := ⟨some 32, .call { callee := .builtin .append, args := #[.tmp 28, .tmp 31], argTypes := #[22, 22] }, 22, _, _, none⟩) rfl (fun K hK => ?_) AllReadyH.nil
    refine step_append tI_ok rfl _ _ rfl rfl OD rfl (Row.nil _) (by first | (simp; done) | (simp only [List.length_append, List.length_singleton, List.length_take, List.length_drop, HN.out]; omega)) G.size ?_
    intro v3 WE OE hGE _
    have G1 := grow_append G OD (Nat.le_refl _) hGE
    clear G OD hGE
    have G := G1
    clear G1
    clear hHeld
    refine hK.out _ _ (G) (fun hHeld => ?_)
    clear hK K
    try simp only [pA, pB, pC]
    refine tlA #[true, true, true, true, true, true, true, true, true, true, true, true, false] ?_
    refine trA [12] ?_
    refine AllReadyH.cons (o := ⟨some 4, .assign (.tmp 32), 22, _, _, none⟩) rfl (fun K hK => ?_) AllReadyH.nil
    go_wp2_with fail
    clear hHeld
    refine hK.out _ _ (G) (fun hHeld => ?_)
    clear hK K
    try simp only [pA, pB, pC]
    refine tlA #[true, true, true, true, true, true, true, true, true, true, true, true, true] ?_
    refine wpAnyH_done (by kernel_rfl) ?_ _
    clear hHeld
    go_wp2_with fail
    go_ret
    exact ⟨⟨_, rfl, by rw [HE.out]; rw [List.append_assoc] at OE; exact OE⟩, G⟩
   refine AllReadyH.cons (o := ⟨some 27, .buildSlice 22 1 #[(0, .tmp 26)], 22, _, _, none⟩) rfl (fun K hK => ?_) AllReadyH.nil
   go_simp
   have RC : Row tI (w0.alloc (.cells #[.int .i64 x] 3)) (.slice (some ⟨w0.heap.size, 0, none⟩) 1 1) [x] := row_one (T := tI) w0 3 x _ rfl
   have G1 := G.then ((Below.refl _ w0).alloc (Nat.le_refl _) (.cells #[.int .i64 x] 3))
   clear G
   have G := G1
   clear G1
   obtain ⟨PC, hPC⟩ : ∃ PC, w0.heap.size = PC := ⟨_, rfl⟩
   rw [hPC] at RC ⊢
   have hlC : PC < (w0.alloc (.cells #[.int .i64 x] 3)).heap.size := by rw [size_alloc]; omega
   generalize w0.alloc (.cells #[.int .i64 x] 3) = WC at *
   clear hPC
   clear hHeld
   refine hK.out _ _ (G) (fun hHeld => ?_)
   clear hK K
   try simp only [pA, pB, pC]
   refine tlA #[false, true, true, true, false, true, true, false, true, true, true, false, false] ?_
   refine trA [0] ?_
   refine AllReadyH.cons (o := ⟨some 21, .buildSlice 22 0 #[], 22, _, _, none⟩) rfl (fun K hK => ?_) AllReadyH.nil
   go_simp
   have OA := own_empty (T := tI) (b := wb.heap.size) WC 3 G.size
   have G1 := G.then ((Below.refl _ WC).alloc (Nat.le_refl _) (.cells #[] 3))
   have RC1 := RC.later ((Below.refl _ WC).alloc (Nat.le_refl _) (.cells #[] 3))
   clear RC
   have RC := RC1
   clear RC1
   clear G
   have G := G1
   clear G1
   have hPA : WC.heap.size = WC.heap.size := rfl
   obtain ⟨PA, hPA⟩ : ∃ PA, WC.heap.size = PA := ⟨_, rfl⟩
   rw [hPA] at OA ⊢
   have hne : PC ≠ PA := by omega
   generalize WC.alloc (.cells #[] 3) = WA at *
   clear hPA
   clear hlC
   clear hHeld
   refine hK.out _ _ (G) (fun hHeld => ?_)
   clear hK K
   try simp only [List.setIfInBounds_toArray, List.set_cons_zero]
   refine tlA #[true, true, true, true, false, true, true, false, true, true, true, false, false] ?_
   refine trA [4] ?_
   refine AllReadyH.cons (o := ⟨some 25, .call { callee := .builtin .append, args := #[.tmp 21, .tmp 24], argTypes := #[22, 22] }, 22, _, _, none⟩) rfl (fun K hK => ?_) AllReadyH.nil
   refine step_append tI_ok rfl _ _ rfl rfl OA rfl (Row.nil _) (by first | (simp; done) | (simp only [List.length_nil, List.length_take]; omega)) G.size ?_
   intro v1 WB OB hGB _
   have G1 := grow_append G OA (Nat.le_refl _) hGB
   rw [List.nil_append] at OB
   have RC1 := RC.kept hGB (by simp only [Value.ownBlock]; intro e; injection e with e; exact hne e.symm)
   clear RC hne
   have RC := RC1
   clear RC1
   clear G OA hGB
   have G := G1
   clear G1
   clear hHeld
   refine hK.out _ _ (G) (fun hHeld => ?_)
   clear hK K
   try simp only [pA, pB, pC]
   refine tlA #[true, true, true, true, true, true, true, false, true, true, true, false, false] ?_
   refine trA [7] ?_
   refine AllReadyH.cons (o := ⟨some 28, .call { callee := .builtin .append, args := #[.tmp 25, .tmp 27], argTypes := #[22, 22] }, 22, _, _, none⟩) rfl (fun K hK => ?_) AllReadyH.nil
   refine step_append tI_ok rfl _ _ rfl rfl OB rfl RC (by first | (simp; done) | (simp only [List.length_singleton, List.length_take]; omega)) G.size ?_
   intro v2 WD OD hGD _
   have G1 := grow_append G OB (Nat.le_refl _) hGD
   clear G OB RC hGD
   have G := G1
   clear G1
   clear hHeld
   refine hK.out _ _ (G) (fun hHeld => ?_)
   clear hK K
   try simp only [pA, pB, pC]
   refine tlA #[true, true, true, true, true, true, true, true, true, true, true, false, false] ?_
   refine trA [11] ?_
   refine AllReadyH.cons (o := ⟨some 32, .call { callee := .builtin .append, args := #[.tmp 28, .tmp 31], argTypes := #[22, 22] }, 22, _, _, none⟩) rfl (fun K hK => ?_) AllReadyH.nil
   refine step_append tI_ok rfl _ _ rfl rfl OD rfl (Row.nil _) (by first | (simp; done) | (simp only [List.length_append, List.length_singleton, List.length_take, List.length_drop, HN.out]; omega)) G.size ?_
   intro v3 WE OE hGE _
   have G1 := grow_append G OD (Nat.le_refl _) hGE
   clear G OD hGE
   have G := G1
   clear G1
   clear hHeld
   refine hK.out _ _ (G) (fun hHeld => ?_)
   clear hK K
   try simp only [pA, pB, pC]
   refine tlA #[true, true, true, true, true, true, true, true, true, true, true, true, false] ?_
   refine trA [12] ?_
   refine AllReadyH.cons (o := ⟨some 4, .assign (.tmp 32), 22, _, _, none⟩) rfl (fun K hK => ?_) AllReadyH.nil
   go_wp2_with fail
   clear hHeld
   refine hK.out _ _ (G) (fun hHeld => ?_)
   clear hK K
   try simp only [pA, pB, pC]
   refine tlA #[true, true, true, true, true, true, true, true, true, true, true, true, true] ?_
   refine wpAnyH_done (by kernel_rfl) ?_ _
   clear hHeld
   go_wp2_with fail
   go_ret
   exact ⟨⟨_, rfl, by rw [HE.out]; rw [List.append_assoc] at OE; exact OE⟩, G⟩
 ·obtain ⟨n, hn⟩ : ∃ n, xs.length = n := ⟨_, rfl⟩
  rw [hn] at HL hl hc1 ⊢
  have HN := Lib.hid hn
  unfold maxLen at hc2
  clear hv hn
  go_enter Tryz.func44, Tryz.ntmps44
  go_wp2_with fail
  go_loop [5] (fun i => ∃ k : Nat, k ≤ n ∧ i = .int .i64 k ∧ Hid (posG ltI xs x k = posG ltI xs x n)) (fun i => (RowKit.intOf i).toNat)
  case atStart => exact ⟨n, Nat.le_refl _, rfl, Lib.hid rfl⟩
  case round =>
   obtain ⟨at0, hat, rfl, HT⟩ := hrel
   by_cases h0 : at0 = 0
   ·have HE := Lib.hid (show putL xs x = xs.take at0 ++ (x :: xs.drop at0) by
     have := HT.out
     subst h0
     unfold putL insG; rw [HN.out, ← this]; rfl)
    have b1 : ¬ (at0 : Int) > 0 := by omega
    have b5 : (at0 : Int) ≤ n := by omega
    have b6 : (0 : Int) ≤ at0 := by omega
    clear HT h0
    obtain ⟨oo, hoo1, hoo2⟩ : ∃ oo : Nat, (c = at0 → oo = 0) ∧ (¬ c = at0 → oo = at0) := ⟨if c = at0 then 0 else at0, fun h => if_pos h, fun h => if_neg h⟩
    have hoo : oo = at0 ∨ n = at0 := by omega
    go_upto_region 4 with fail
    refine wp_region_held_drew (S := (fun wx => Grows wb wx)) (by kernel_rfl) ((Below.refl _ wb).drew) (fun hHeld => ?_)
    have G : Grows wb wb.drew := (Below.refl _ wb).drew
    refine tbA [1, 2, 3, 5, 8, 9, 10] ?_
    refine tkA (.slice (some ⟨gl, 0, none⟩) n c) (oi := ⟨some 22, .move (.tmp 0), 22, _, _, none⟩) ?_
    simp only [Act.put, pA, pB, pC]
    refine tkA (.int .i64 at0) (oi := ⟨some 23, .move (.tmp 5), 3, _, _, none⟩) ?_
    simp only [Act.put, pA, pB, pC]
    refine wpAnyT_take (oi := ⟨some 24, .slice 22 (.tmp 22) none (some (.tmp 23)) none, 22, _, _, none⟩) (v := .slice (some ⟨gl, 0, none⟩) at0 c) rfl (fun _ _ _ h => h) (by rfl) (by assumption) (fun wS hSw => ?_) ?_
    ·(try dsimp only at hSw); go_simp; try (first | (intro h; exfalso; omega) | (split <;> rename_i hz <;> first | rw [hoo1 hz] | rw [hoo2 hz]))
    simp only [Act.put, pA, pB, pC]
    refine tkA (.int .i64 x) (oi := ⟨some 26, .move (.tmp 1), 3, _, _, none⟩) ?_
    simp only [Act.put, pA, pB, pC]
    refine tkA (.slice (some ⟨gl, 0, none⟩) n c) (oi := ⟨some 29, .move (.tmp 0), 22, _, _, none⟩) ?_
    simp only [Act.put, pA, pB, pC]
    refine tkA (.int .i64 at0) (oi := ⟨some 30, .move (.tmp 5), 3, _, _, none⟩) ?_
    simp only [Act.put, pA, pB, pC]
    refine wpAnyT_take (oi := ⟨some 31, .slice 22 (.tmp 29) (some (.tmp 30)) none none, 22, _, _, none⟩) (v := .slice (some ⟨gl, oo, none⟩) (n - at0) (c - at0)) rfl (fun _ _ _ h => h) (by rfl) (by assumption) (fun wS hSw => ?_) ?_
    ·(try dsimp only at hSw); go_simp; try (first | (intro h; exfalso; omega) | (split <;> rename_i hz <;> first | rw [hoo1 hz] | rw [hoo2 hz]))
    simp only [Act.put, pA, pB, pC]
    refine teA ?_
    refine tlA #[false, true, true, true, false, true, false, false, true, true, true, false, false] ?_
    generalize wb.drew = w0 at *
    refine trA [0, 6] ?_
    refine AllReadyH.cons (o := ⟨some 21, .buildSlice 22 0 #[], 22, _, _, none⟩) rfl (fun K hK => ?_) ?_
    ·go_simp
     have OA := own_empty (T := tI) (b := wb.heap.size) w0 3 G.size
     have G1 := G.then ((Below.refl _ w0).alloc (Nat.le_refl _) (.cells #[] 3))
     clear G
     have G := G1
     clear G1
     have hPA : w0.heap.size = w0.heap.size := rfl
     obtain ⟨PA, hPA⟩ : ∃ PA, w0.heap.size = PA := ⟨_, rfl⟩
     rw [hPA] at OA ⊢
     have hlA : PA < (w0.alloc (.cells #[] 3)).heap.size := by rw [size_alloc]; omega
     generalize w0.alloc (.cells #[] 3) = WA at *
     clear hPA
     clear hHeld
     refine hK.out _ _ (G) (fun hHeld => ?_)
     clear hK K
     try simp only [List.setIfInBounds_toArray, List.set_cons_zero]
     refine tlA #[true, true, true, true, false, true, false, false, true, true, true, false, false] ?_
     refine trA [4, 6] ?_
     refine AllReadyH.cons (o := ⟨some 25, .call { callee := .builtin .append, args := #[.tmp 21, .tmp 24], argTypes := #[22, 22] }, 22, _, _, none⟩) rfl (fun K hK => ?_) ?_
     ·refine step_append tI_ok rfl _ _ rfl rfl OA rfl ((HL.out.later G).take at0 (by simp only [HN.out]; omega)) (by first | (simp; done) | (simp only [List.length_nil, List.length_take]; omega)) G.size ?_
      intro v1 WB OB hGB _
      have G1 := grow_append G OA (Nat.le_refl _) hGB
      rw [List.nil_append] at OB
      clear hlA
      clear G OA hGB
      have G := G1
      clear G1
      clear hHeld
      refine hK.out _ _ (G) (fun hHeld => ?_)
      clear hK K
      try simp only [pA, pB, pC]
      refine tlA #[true, true, true, true, true, true, false, false, true, true, true, false, false] ?_
      refine trA [6] ?_
      refine AllReadyH.cons (o := ⟨some 27, .buildSlice 22 1 #[(0, .tmp 26)], 22, _, _, none⟩) rfl (fun K hK => ?_) AllReadyH.nil
      go_simp
      have RC : Row tI (WB.alloc (.cells #[.int .i64 x] 3)) (.slice (some ⟨WB.heap.size, 0, none⟩) 1 1) [x] := row_one (T := tI) WB 3 x _ rfl
      have G1 := G.then ((Below.refl _ WB).alloc (Nat.le_refl _) (.cells #[.int .i64 x] 3))
      clear G
      have G := G1
      clear G1
      have OB1 := OB.later ((Below.refl _ WB).alloc (Nat.le_refl _) (.cells #[.int .i64 x] 3))
      clear OB
      have OB := OB1
      clear OB1
      obtain ⟨PC, hPC⟩ : ∃ PC, WB.heap.size = PC := ⟨_, rfl⟩
      rw [hPC] at RC ⊢
      generalize WB.alloc (.cells #[.int .i64 x] 3) = WC at *
      clear hPC
      clear hHeld
      refine hK.out _ _ (G) (fun hHeld => ?_)
      clear hK K
      try simp only [pA, pB, pC]
      refine tlA #[true, true, true, true, true, true, true, false, true, true, true, false, false] ?_
      refine trA [7] ?_
      refine AllReadyH.cons (o := ⟨some 28, .call { callee := .builtin .append, args := #[.tmp 25, .tmp 27], argTypes := #[22, 22] }, 22, _, _, none⟩) rfl (fun K hK => ?_) AllReadyH.nil
      refine step_append tI_ok rfl _ _ rfl rfl OB rfl RC (by first | (simp; done) | (simp only [List.length_singleton, List.length_take]; omega)) G.size ?_
      intro v2 WD OD hGD _
      have G1 := grow_append G OB (Nat.le_refl _) hGD
      clear G OB RC hGD
      have G := G1
      clear G1
      clear hHeld
      refine hK.out _ _ (G) (fun hHeld => ?_)
      clear hK K
      try simp only [pA, pB, pC]
      refine tlA #[true, true, true, true, true, true, true, true, true, true, true, false, false] ?_
      refine trA [11] ?_
      refine AllReadyH.cons (o := ⟨some 32, .call { callee := .builtin .append, args := #[.tmp 28, .tmp 31], argTypes := #[22, 22] }, 22, _, _, none⟩) rfl (fun K hK => ?_) AllReadyH.nil
      refine step_append tI_ok rfl _ _ rfl rfl OD rfl ((HL.out.later G).droptI at0 (by simp only [HN.out]; omega) hoo) (by first | (simp; done) | (simp only [List.length_append, List.length_singleton, List.length_take, List.length_drop, HN.out]; omega)) G.size ?_
      intro v3 WE OE hGE _
      have G1 := grow_append G OD (Nat.le_refl _) hGE
      clear G OD hGE
      have G := G1
      clear G1
      clear hHeld
      refine hK.out _ _ (G) (fun hHeld => ?_)
      clear hK K
      try simp only [pA, pB, pC]
      refine tlA #[true, true, true, true, true, true, true, true, true, true, true, true, false] ?_
      refine trA [12] ?_
      refine AllReadyH.cons (o := ⟨some 4, .assign (.tmp 32), 22, _, _, none⟩) rfl (fun K hK => ?_) AllReadyH.nil
      go_wp2_with fail
      clear hHeld
      refine hK.out _ _ (G) (fun hHeld => ?_)
      clear hK K
      try simp only [pA, pB, pC]
      refine tlA #[true, true, true, true, true, true, true, true, true, true, true, true, true] ?_
      refine wpAnyH_done (by kernel_rfl) ?_ _
      clear hHeld
      go_wp2_with fail
      go_ret
      exact ⟨⟨_, rfl, by rw [HE.out]; rw [List.append_assoc] at OE; exact OE⟩, G⟩
     refine AllReadyH.cons (o := ⟨some 27, .buildSlice 22 1 #[(0, .tmp 26)], 22, _, _, none⟩) rfl (fun K hK => ?_) AllReadyH.nil
     go_simp
     have RC : Row tI (WA.alloc (.cells #[.int .i64 x] 3)) (.slice (some ⟨WA.heap.size, 0, none⟩) 1 1) [x] := row_one (T := tI) WA 3 x _ rfl
     have G1 := G.then ((Below.refl _ WA).alloc (Nat.le_refl _) (.cells #[.int .i64 x] 3))
     clear G
     have G := G1
     clear G1
     have OA1 := OA.later ((Below.refl _ WA).alloc (Nat.le_refl _) (.cells #[.int .i64 x] 3))
     clear OA
     have OA := OA1
     clear OA1
     obtain ⟨PC, hPC⟩ : ∃ PC, WA.heap.size = PC := ⟨_, rfl⟩
     rw [hPC] at RC ⊢
     have hne : PC ≠ PA := by omega
     generalize WA.alloc (.cells #[.int .i64 x] 3) = WC at *
     clear hPC
     clear hlA
     clear hHeld
     refine hK.out _ _ (G) (fun hHeld => ?_)
     clear hK K
     try simp only [pA, pB, pC]
     refine tlA #[true, true, true, true, false, true, true, false, true, true, true, false, false] ?_
     refine trA [4] ?_
     refine AllReadyH.cons (o := ⟨some 25, .call { callee := .builtin .append, args := #[.tmp 21, .tmp 24], argTypes := #[22, 22] }, 22, _, _, none⟩) rfl (fun K hK => ?_) AllReadyH.nil
     refine step_append tI_ok rfl _ _ rfl rfl OA rfl ((HL.out.later G).take at0 (by simp only [HN.out]; omega)) (by first | (simp; done) | (simp only [List.length_nil, List.length_take]; omega)) G.size ?_
     intro v1 WB OB hGB _
     have G1 := grow_append G OA (Nat.le_refl _) hGB
     rw [List.nil_append] at OB
     have RC1 := RC.kept hGB (by simp only [Value.ownBlock]; intro e; injection e with e; exact hne e.symm)
     clear RC hne
     have RC := RC1
     clear RC1
     clear G OA hGB
     have G := G1
     clear G1
     clear hHeld
     refine hK.out _ _ (G) (fun hHeld => ?_)
     clear hK K
     try simp only [pA, pB, pC]
     refine tlA #[true, true, true, true, true, true, true, false, true, true, true, false, false] ?_
     refine trA [7] ?_
     refine AllReadyH.cons (o := ⟨some 28, .call { callee := .builtin .append, args := #[.tmp 25, .tmp 27], argTypes := #[22, 22] }, 22, _, _, none⟩) rfl (fun K hK => ?_) AllReadyH.nil
     refine step_append tI_ok rfl _ _ rfl rfl OB rfl RC (by first | (simp; done) | (simp only [List.length_singleton, List.length_take]; omega)) G.size ?_
     intro v2 WD OD hGD _
     have G1 := grow_append G OB (Nat.le_refl _) hGD
     clear G OB RC hGD
     have G := G1
     clear G1
     clear hHeld
     refine hK.out _ _ (G) (fun hHeld => ?_)
     clear hK K
     try simp only [pA, pB, pC]
     refine tlA #[true, true, true, true, true, true, true, true, true, true, true, false, false] ?_
     refine trA [11] ?_
     refine AllReadyH.cons (o := ⟨some 32, .call { callee := .builtin .append, args := #[.tmp 28, .tmp 31], argTypes := #[22, 22] }, 22, _, _, none⟩) rfl (fun K hK => ?_) AllReadyH.nil
     refine step_append tI_ok rfl _ _ rfl rfl OD rfl ((HL.out.later G).droptI at0 (by simp only [HN.out]; omega) hoo) (by first | (simp; done) | (simp only [List.length_append, List.length_singleton, List.length_take, List.length_drop, HN.out]; omega)) G.size ?_
     intro v3 WE OE hGE _
     have G1 := grow_append G OD (Nat.le_refl _) hGE
     clear G OD hGE
     have G := G1
     clear G1
     clear hHeld
     refine hK.out _ _ (G) (fun hHeld => ?_)
     clear hK K
     try simp only [pA, pB, pC]
     refine tlA #[true, true, true, true, true, true, true, true, true, true, true, true, false] ?_
     refine trA [12] ?_
     refine AllReadyH.cons (o := ⟨some 4, .assign (.tmp 32), 22, _, _, none⟩) rfl (fun K hK => ?_) AllReadyH.nil
     go_wp2_with fail
     clear hHeld
     refine hK.out _ _ (G) (fun hHeld => ?_)
     clear hK K
     try simp only [pA, pB, pC]
     refine tlA #[true, true, true, true, true, true, true, true, true, true, true, true, true] ?_
     refine wpAnyH_done (by kernel_rfl) ?_ _
     clear hHeld
     go_wp2_with fail
     go_ret
     exact ⟨⟨_, rfl, by rw [HE.out]; rw [List.append_assoc] at OE; exact OE⟩, G⟩
    refine AllReadyH.cons (o := ⟨some 27, .buildSlice 22 1 #[(0, .tmp 26)], 22, _, _, none⟩) rfl (fun K hK => ?_) AllReadyH.nil
    go_simp
    have RC : Row tI (w0.alloc (.cells #[.int .i64 x] 3)) (.slice (some ⟨w0.heap.size, 0, none⟩) 1 1) [x] := row_one (T := tI) w0 3 x _ rfl
    have G1 := G.then ((Below.refl _ w0).alloc (Nat.le_refl _) (.cells #[.int .i64 x] 3))
    clear G
    have G := G1
    clear G1
    obtain ⟨PC, hPC⟩ : ∃ PC, w0.heap.size = PC := ⟨_, rfl⟩
    rw [hPC] at RC ⊢
    have hlC : PC < (w0.alloc (.cells #[.int .i64 x] 3)).heap.size := by rw [size_alloc]; omega
    generalize w0.alloc (.cells #[.int .i64 x] 3) = WC at *
    clear hPC
    clear hHeld
    refine hK.out _ _ (G) (fun hHeld => ?_)
    clear hK K
    try simp only [pA, pB, pC]
    refine tlA #[false, true, true, true, false, true, true, false, true, true, true, false, false] ?_
    refine trA [0] ?_
    refine AllReadyH.cons (o := ⟨some 21, .buildSlice 22 0 #[], 22, _, _, none⟩) rfl (fun K hK => ?_) AllReadyH.nil
    go_simp
    have OA := own_empty (T := tI) (b := wb.heap.size) WC 3 G.size
    have G1 := G.then ((Below.refl _ WC).alloc (Nat.le_refl _) (.cells #[] 3))
    have RC1 := RC.later ((Below.refl _ WC).alloc (Nat.le_refl _) (.cells #[] 3))
    clear RC
    have RC := RC1
    clear RC1
    clear G
    have G := G1
    clear G1
    have hPA : WC.heap.size = WC.heap.size := rfl
    obtain ⟨PA, hPA⟩ : ∃ PA, WC.heap.size = PA := ⟨_, rfl⟩
    rw [hPA] at OA ⊢
    have hne : PC ≠ PA := by omega
    generalize WC.alloc (.cells #[] 3) = WA at *
    clear hPA
    clear hlC
    clear hHeld
    refine hK.out _ _ (G) (fun hHeld => ?_)
    clear hK K
    try simp only [List.setIfInBounds_toArray, List.set_cons_zero]
    refine tlA #[true, true, true, true, false, true, true, false, true, true, true, false, false] ?_
    refine trA [4] ?_
    refine AllReadyH.cons (o := ⟨some 25, .call { callee := .builtin .append, args := #[.tmp 21, .tmp 24], argTypes := #[22, 22] }, 22, _, _, none⟩) rfl (fun K hK => ?_) AllReadyH.nil
    refine step_append tI_ok rfl _ _ rfl rfl OA rfl ((HL.out.later G).take at0 (by simp only [HN.out]; omega)) (by first | (simp; done) | (simp only [List.length_nil, List.length_take]; omega)) G.size ?_
    intro v1 WB OB hGB _
    have G1 := grow_append G OA (Nat.le_refl _) hGB
    rw [List.nil_append] at OB
    have RC1 := RC.kept hGB (by simp only [Value.ownBlock]; intro e; injection e with e; exact hne e.symm)
    clear RC hne
    have RC := RC1
    clear RC1
    clear G OA hGB
    have G := G1
    clear G1
    clear hHeld
    refine hK.out _ _ (G) (fun hHeld => ?_)
    clear hK K
    try simp only [pA, pB, pC]
    refine tlA #[true, true, true, true, true, true, true, false, true, true, true, false, false] ?_
    refine trA [7] ?_
    refine AllReadyH.cons (o := ⟨some 28, .call { callee := .builtin .append, args := #[.tmp 25, .tmp 27], argTypes := #[22, 22] }, 22, _, _, none⟩) rfl (fun K hK => ?_) AllReadyH.nil
    refine step_append tI_ok rfl _ _ rfl rfl OB rfl RC (by first | (simp; done) | (simp only [List.length_singleton, List.length_take]; omega)) G.size ?_
    intro v2 WD OD hGD _
    have G1 := grow_append G OB (Nat.le_refl _) hGD
    clear G OB RC hGD
    have G := G1
    clear G1
    clear hHeld
    refine hK.out _ _ (G) (fun hHeld => ?_)
    clear hK K
    try simp only [pA, pB, pC]
    refine tlA #[true, true, true, true, true, true, true, true, true, true, true, false, false] ?_
    refine trA [11] ?_
    refine AllReadyH.cons (o := ⟨some 32, .call { callee := .builtin .append, args := #[.tmp 28, .tmp 31], argTypes := #[22, 22] }, 22, _, _, none⟩) rfl (fun K hK => ?_) AllReadyH.nil
    refine step_append tI_ok rfl _ _ rfl rfl OD rfl ((HL.out.later G).droptI at0 (by simp only [HN.out]; omega) hoo) (by first | (simp; done) | (simp only [List.length_append, List.length_singleton, List.length_take, List.length_drop, HN.out]; omega)) G.size ?_
    intro v3 WE OE hGE _
    have G1 := grow_append G OD (Nat.le_refl _) hGE
    clear G OD hGE
    have G := G1
    clear G1
    clear hHeld
    refine hK.out _ _ (G) (fun hHeld => ?_)
    clear hK K
    try simp only [pA, pB, pC]
    refine tlA #[true, true, true, true, true, true, true, true, true, true, true, true, false] ?_
    refine trA [12] ?_
    refine AllReadyH.cons (o := ⟨some 4, .assign (.tmp 32), 22, _, _, none⟩) rfl (fun K hK => ?_) AllReadyH.nil
    go_wp2_with fail
    clear hHeld
    refine hK.out _ _ (G) (fun hHeld => ?_)
    clear hK K
    try simp only [pA, pB, pC]
    refine tlA #[true, true, true, true, true, true, true, true, true, true, true, true, true] ?_
    refine wpAnyH_done (by kernel_rfl) ?_ _
    clear hHeld
    go_wp2_with fail
    go_ret
    exact ⟨⟨_, rfl, by rw [HE.out]; rw [List.append_assoc] at OE; exact OE⟩, G⟩
   ·obtain ⟨q, rfl⟩ : ∃ q, at0 = q + 1 := ⟨at0 - 1, by omega⟩
    obtain ⟨y, hy⟩ : ∃ y, xs[q]? = some y := ⟨_, List.getElem?_eq_getElem (by rw [HN.out]; omega)⟩
    have c0 := HL.out.num hy
    rw [Nat.zero_add] at c0
    have b1 : ((q + 1 : Nat) : Int) > 0 := by omega
    have e1 : ((q + 1 : Nat) : Int) - 1 = (q : Int) := by omega
    have b3 : (q : Int) < n := by omega
    have b4 : (0 : Int) ≤ q := by omega
    by_cases hlt : x < y
    ·have HE := Lib.hid (show posG ltI xs x q = posG ltI xs x n by rw [← HT.out, posG_yes hy (by unfold ltI; simpa using hlt)])
     have z0 : decide (x < y) = true := by simpa using hlt
     clear HT hlt hy
     go_wp2_with fail
     go_round
     case rel => exact ⟨q, by omega, by go_num, HE⟩
     case measure => simp [RowKit.intOf]
    ·have HE := Lib.hid (show putL xs x = xs.take (q + 1) ++ (x :: xs.drop (q + 1)) by
      have := HT.out
      rw [posG_no hy (by unfold ltI; simpa using hlt)] at this
      unfold putL insG; rw [HN.out, ← this])
     have z0 : decide (x < y) = false := by simpa using hlt
     clear HT hlt hy
     obtain ⟨at0, ha⟩ : ∃ at0, q + 1 = at0 := ⟨_, rfl⟩
     rw [ha] at HE hat b1 e1 ⊢
     have b5 : (at0 : Int) ≤ n := by omega
     have b6 : (0 : Int) ≤ at0 := by omega
     clear ha h0
     obtain ⟨oo, hoo1, hoo2⟩ : ∃ oo : Nat, (c = at0 → oo = 0) ∧ (¬ c = at0 → oo = at0) := ⟨if c = at0 then 0 else at0, fun h => if_pos h, fun h => if_neg h⟩
     have hoo : oo = at0 ∨ n = at0 := by omega
     go_upto_region 4 with fail
     refine wp_region_held_drew (S := (fun wx => Grows wb wx)) (by kernel_rfl) ((Below.refl _ wb).drew) (fun hHeld => ?_)
     have G : Grows wb wb.drew := (Below.refl _ wb).drew
     refine tbA [1, 2, 3, 5, 8, 9, 10] ?_
     refine tkA (.slice (some ⟨gl, 0, none⟩) n c) (oi := ⟨some 22, .move (.tmp 0), 22, _, _, none⟩) ?_
     simp only [Act.put, pA, pB, pC]
     refine tkA (.int .i64 at0) (oi := ⟨some 23, .move (.tmp 5), 3, _, _, none⟩) ?_
     simp only [Act.put, pA, pB, pC]
     refine wpAnyT_take (oi := ⟨some 24, .slice 22 (.tmp 22) none (some (.tmp 23)) none, 22, _, _, none⟩) (v := .slice (some ⟨gl, 0, none⟩) at0 c) rfl (fun _ _ _ h => h) (by rfl) (by assumption) (fun wS hSw => ?_) ?_
     ·(try dsimp only at hSw); go_simp; try (first | (intro h; exfalso; omega) | (split <;> rename_i hz <;> first | rw [hoo1 hz] | rw [hoo2 hz]))
     simp only [Act.put, pA, pB, pC]
     refine tkA (.int .i64 x) (oi := ⟨some 26, .move (.tmp 1), 3, _, _, none⟩) ?_
     simp only [Act.put, pA, pB, pC]
     refine tkA (.slice (some ⟨gl, 0, none⟩) n c) (oi := ⟨some 29, .move (.tmp 0), 22, _, _, none⟩) ?_
     simp only [Act.put, pA, pB, pC]
     refine tkA (.int .i64 at0) (oi := ⟨some 30, .move (.tmp 5), 3, _, _, none⟩) ?_
     simp only [Act.put, pA, pB, pC]
     refine wpAnyT_take (oi := ⟨some 31, .slice 22 (.tmp 29) (some (.tmp 30)) none none, 22, _, _, none⟩) (v := .slice (some ⟨gl, oo, none⟩) (n - at0) (c - at0)) rfl (fun _ _ _ h => h) (by rfl) (by assumption) (fun wS hSw => ?_) ?_
     ·(try dsimp only at hSw); go_simp; try (first | (intro h; exfalso; omega) | (split <;> rename_i hz <;> first | rw [hoo1 hz] | rw [hoo2 hz]))
     simp only [Act.put, pA, pB, pC]
     refine teA ?_
     refine tlA #[false, true, true, true, false, true, false, false, true, true, true, false, false] ?_
     generalize wb.drew = w0 at *
     refine trA [0, 6] ?_
     refine AllReadyH.cons (o := ⟨some 21, .buildSlice 22 0 #[], 22, _, _, none⟩) rfl (fun K hK => ?_) ?_
     ·go_simp
      have OA := own_empty (T := tI) (b := wb.heap.size) w0 3 G.size
      have G1 := G.then ((Below.refl _ w0).alloc (Nat.le_refl _) (.cells #[] 3))
      clear G
      have G := G1
      clear G1
      have hPA : w0.heap.size = w0.heap.size := rfl
      obtain ⟨PA, hPA⟩ : ∃ PA, w0.heap.size = PA := ⟨_, rfl⟩
      rw [hPA] at OA ⊢
      have hlA : PA < (w0.alloc (.cells #[] 3)).heap.size := by rw [size_alloc]; omega
      generalize w0.alloc (.cells #[] 3) = WA at *
      clear hPA
      clear hHeld
      refine hK.out _ _ (G) (fun hHeld => ?_)
      clear hK K
      try simp only [List.setIfInBounds_toArray, List.set_cons_zero]
      refine tlA #[true, true, true, true, false, true, false, false, true, true, true, false, false] ?_
      refine trA [4, 6] ?_
      refine AllReadyH.cons (o := ⟨some 25, .call { callee := .builtin .append, args := #[.tmp 21, .tmp 24], argTypes := #[22, 22] }, 22, _, _, none⟩) rfl (fun K hK => ?_) ?_
      ·refine step_append tI_ok rfl _ _ rfl rfl OA rfl ((HL.out.later G).take at0 (by simp only [HN.out]; omega)) (by first | (simp; done) | (simp only [List.length_nil, List.length_take]; omega)) G.size ?_
       intro v1 WB OB hGB _
       have G1 := grow_append G OA (Nat.le_refl _) hGB
       rw [List.nil_append] at OB
       clear hlA
       clear G OA hGB
       have G := G1
       clear G1
       clear hHeld
       refine hK.out _ _ (G) (fun hHeld => ?_)
       clear hK K
       try simp only [pA, pB, pC]
       refine tlA #[true, true, true, true, true, true, false, false, true, true, true, false, false] ?_
       refine trA [6] ?_
       refine AllReadyH.cons (o := ⟨some 27, .buildSlice 22 1 #[(0, .tmp 26)], 22, _, _, none⟩) rfl (fun K hK => ?_) AllReadyH.nil
       go_simp
       have RC : Row tI (WB.alloc (.cells #[.int .i64 x] 3)) (.slice (some ⟨WB.heap.size, 0, none⟩) 1 1) [x] := row_one (T := tI) WB 3 x _ rfl
       have G1 := G.then ((Below.refl _ WB).alloc (Nat.le_refl _) (.cells #[.int .i64 x] 3))
       clear G
       have G := G1
       clear G1
       have OB1 := OB.later ((Below.refl _ WB).alloc (Nat.le_refl _) (.cells #[.int .i64 x] 3))
       clear OB
       have OB := OB1
       clear OB1
       obtain ⟨PC, hPC⟩ : ∃ PC, WB.heap.size = PC := ⟨_, rfl⟩
       rw [hPC] at RC ⊢
       generalize WB.alloc (.cells #[.int .i64 x] 3) = WC at *
       clear hPC
       clear hHeld
       refine hK.out _ _ (G) (fun hHeld => ?_)
       clear hK K
       try simp only [pA, pB, pC]
       refine tlA #[true, true, true, true, true, true, true, false, true, true, true, false, false] ?_
       refine trA [7] ?_
       refine AllReadyH.cons (o := ⟨some 28, .call { callee := .builtin .append, args := #[.tmp 25, .tmp 27], argTypes := #[22, 22] }, 22, _, _, none⟩) rfl (fun K hK => ?_) AllReadyH.nil
       refine step_append tI_ok rfl _ _ rfl rfl OB rfl RC (by first | (simp; done) | (simp only [List.length_singleton, List.length_take]; omega)) G.size ?_
       intro v2 WD OD hGD _
       have G1 := grow_append G OB (Nat.le_refl _) hGD
       clear G OB RC hGD
       have G := G1
       clear G1
       clear hHeld
       refine hK.out _ _ (G) (fun hHeld => ?_)
       clear hK K
       try simp only [pA, pB, pC]
       refine tlA #[true, true, true, true, true, true, true, true, true, true, true, false, false] ?_
       refine trA [11] ?_
       refine AllReadyH.cons (o := ⟨some 32, .call { callee := .builtin .append, args := #[.tmp 28, .tmp 31], argTypes := #[22, 22] }, 22, _, _, none⟩) rfl (fun K hK => ?_) AllReadyH.nil
       refine step_append tI_ok rfl _ _ rfl rfl OD rfl ((HL.out.later G).droptI at0 (by simp only [HN.out]; omega) hoo) (by first | (simp; done) | (simp only [List.length_append, List.length_singleton, List.length_take, List.length_drop, HN.out]; omega)) G.size ?_
       intro v3 WE OE hGE _
       have G1 := grow_append G OD (Nat.le_refl _) hGE
       clear G OD hGE
       have G := G1
       clear G1
       clear hHeld
       refine hK.out _ _ (G) (fun hHeld => ?_)
       clear hK K
       try simp only [pA, pB, pC]
       refine tlA #[true, true, true, true, true, true, true, true, true, true, true, true, false] ?_
       refine trA [12] ?_
       refine AllReadyH.cons (o := ⟨some 4, .assign (.tmp 32), 22, _, _, none⟩) rfl (fun K hK => ?_) AllReadyH.nil
       go_wp2_with fail
       clear hHeld
       refine hK.out _ _ (G) (fun hHeld => ?_)
       clear hK K
       try simp only [pA, pB, pC]
       refine tlA #[true, true, true, true, true, true, true, true, true, true, true, true, true] ?_
       refine wpAnyH_done (by kernel_rfl) ?_ _
       clear hHeld
       go_wp2_with fail
       go_ret
       exact ⟨⟨_, rfl, by rw [HE.out]; rw [List.append_assoc] at OE; exact OE⟩, G⟩
      refine AllReadyH.cons (o := ⟨some 27, .buildSlice 22 1 #[(0, .tmp 26)], 22, _, _, none⟩) rfl (fun K hK => ?_) AllReadyH.nil
      go_simp
      have RC : Row tI (WA.alloc (.cells #[.int .i64 x] 3)) (.slice (some ⟨WA.heap.size, 0, none⟩) 1 1) [x] := row_one (T := tI) WA 3 x _ rfl
      have G1 := G.then ((Below.refl _ WA).alloc (Nat.le_refl _) (.cells #[.int .i64 x] 3))
      clear G
      have G := G1
      clear G1
      have OA1 := OA.later ((Below.refl _ WA).alloc (Nat.le_refl _) (.cells #[.int .i64 x] 3))
      clear OA
      have OA := OA1
      clear OA1
      obtain ⟨PC, hPC⟩ : ∃ PC, WA.heap.size = PC := ⟨_, rfl⟩
      rw [hPC] at RC ⊢
      have hne : PC ≠ PA := by omega
      generalize WA.alloc (.cells #[.int .i64 x] 3) = WC at *
      clear hPC
      clear hlA
      clear hHeld
      refine hK.out _ _ (G) (fun hHeld => ?_)
      clear hK K
      try simp only [pA, pB, pC]
      refine tlA #[true, true, true, true, false, true, true, false, true, true, true, false, false] ?_
      refine trA [4] ?_
      refine AllReadyH.cons (o := ⟨some 25, .call { callee := .builtin .append, args := #[.tmp 21, .tmp 24], argTypes := #[22, 22] }, 22, _, _, none⟩) rfl (fun K hK => ?_) AllReadyH.nil
      refine step_append tI_ok rfl _ _ rfl rfl OA rfl ((HL.out.later G).take at0 (by simp only [HN.out]; omega)) (by first | (simp; done) | (simp only [List.length_nil, List.length_take]; omega)) G.size ?_
      intro v1 WB OB hGB _
      have G1 := grow_append G OA (Nat.le_refl _) hGB
      rw [List.nil_append] at OB
      have RC1 := RC.kept hGB (by simp only [Value.ownBlock]; intro e; injection e with e; exact hne e.symm)
      clear RC hne
      have RC := RC1
      clear RC1
      clear G OA hGB
      have G := G1
      clear G1
      clear hHeld
      refine hK.out _ _ (G) (fun hHeld => ?_)
      clear hK K
      try simp only [pA, pB, pC]
      refine tlA #[true, true, true, true, true, true, true, false, true, true, true, false, false] ?_
      refine trA [7] ?_
      refine AllReadyH.cons (o := ⟨some 28, .call { callee := .builtin .append, args := #[.tmp 25, .tmp 27], argTypes := #[22, 22] }, 22, _, _, none⟩) rfl (fun K hK => ?_) AllReadyH.nil
      refine step_append tI_ok rfl _ _ rfl rfl OB rfl RC (by first | (simp; done) | (simp only [List.length_singleton, List.length_take]; omega)) G.size ?_
      intro v2 WD OD hGD _
      have G1 := grow_append G OB (Nat.le_refl _) hGD
      clear G OB RC hGD
      have G := G1
      clear G1
      clear hHeld
      refine hK.out _ _ (G) (fun hHeld => ?_)
      clear hK K
      try simp only [pA, pB, pC]
      refine tlA #[true, true, true, true, true, true, true, true, true, true, true, false, false] ?_
      refine trA [11] ?_
      refine AllReadyH.cons (o := ⟨some 32, .call { callee := .builtin .append, args := #[.tmp 28, .tmp 31], argTypes := #[22, 22] }, 22, _, _, none⟩) rfl (fun K hK => ?_) AllReadyH.nil
      refine step_append tI_ok rfl _ _ rfl rfl OD rfl ((HL.out.later G).droptI at0 (by simp only [HN.out]; omega) hoo) (by first | (simp; done) | (simp only [List.length_append, List.length_singleton, List.length_take, List.length_drop, HN.out]; omega)) G.size ?_
      intro v3 WE OE hGE _
      have G1 := grow_append G OD (Nat.le_refl _) hGE
      clear G OD hGE
      have G := G1
      clear G1
      clear hHeld
      refine hK.out _ _ (G) (fun hHeld => ?_)
      clear hK K
      try simp only [pA, pB, pC]
      refine tlA #[true, true, true, true, true, true, true, true, true, true, true, true, false] ?_
      refine trA [12] ?_
      refine AllReadyH.cons (o := ⟨some 4, .assign (.tmp 32), 22, _, _, none⟩) rfl (fun K hK => ?_) AllReadyH.nil
      go_wp2_with fail
      clear hHeld
      refine hK.out _ _ (G) (fun hHeld => ?_)
      clear hK K
      try simp only [pA, pB, pC]
      refine tlA #[true, true, true, true, true, true, true, true, true, true, true, true, true] ?_
      refine wpAnyH_done (by kernel_rfl) ?_ _
      clear hHeld
      go_wp2_with fail
      go_ret
      exact ⟨⟨_, rfl, by rw [HE.out]; rw [List.append_assoc] at OE; exact OE⟩, G⟩
     refine AllReadyH.cons (o := ⟨some 27, .buildSlice 22 1 #[(0, .tmp 26)], 22, _, _, none⟩) rfl (fun K hK => ?_) AllReadyH.nil
     go_simp
     have RC : Row tI (w0.alloc (.cells #[.int .i64 x] 3)) (.slice (some ⟨w0.heap.size, 0, none⟩) 1 1) [x] := row_one (T := tI) w0 3 x _ rfl
     have G1 := G.then ((Below.refl _ w0).alloc (Nat.le_refl _) (.cells #[.int .i64 x] 3))
     clear G
     have G := G1
     clear G1
     obtain ⟨PC, hPC⟩ : ∃ PC, w0.heap.size = PC := ⟨_, rfl⟩
     rw [hPC] at RC ⊢
     have hlC : PC < (w0.alloc (.cells #[.int .i64 x] 3)).heap.size := by rw [size_alloc]; omega
     generalize w0.alloc (.cells #[.int .i64 x] 3) = WC at *
     clear hPC
     clear hHeld
     refine hK.out _ _ (G) (fun hHeld => ?_)
     clear hK K
     try simp only [pA, pB, pC]
     refine tlA #[false, true, true, true, false, true, true, false, true, true, true, false, false] ?_
     refine trA [0] ?_
     refine AllReadyH.cons (o := ⟨some 21, .buildSlice 22 0 #[], 22, _, _, none⟩) rfl (fun K hK => ?_) AllReadyH.nil
     go_simp
     have OA := own_empty (T := tI) (b := wb.heap.size) WC 3 G.size
     have G1 := G.then ((Below.refl _ WC).alloc (Nat.le_refl _) (.cells #[] 3))
     have RC1 := RC.later ((Below.refl _ WC).alloc (Nat.le_refl _) (.cells #[] 3))
     clear RC
     have RC := RC1
     clear RC1
     clear G
     have G := G1
     clear G1
     have hPA : WC.heap.size = WC.heap.size := rfl
     obtain ⟨PA, hPA⟩ : ∃ PA, WC.heap.size = PA := ⟨_, rfl⟩
     rw [hPA] at OA ⊢
     have hne : PC ≠ PA := by omega
     generalize WC.alloc (.cells #[] 3) = WA at *
     clear hPA
     clear hlC
     clear hHeld
     refine hK.out _ _ (G) (fun hHeld => ?_)
     clear hK K
     try simp only [List.setIfInBounds_toArray, List.set_cons_zero]
     refine tlA #[true, true, true, true, false, true, true, false, true, true, true, false, false] ?_
     refine trA [4] ?_
     refine AllReadyH.cons (o := ⟨some 25, .call { callee := .builtin .append, args := #[.tmp 21, .tmp 24], argTypes := #[22, 22] }, 22, _, _, none⟩) rfl (fun K hK => ?_) AllReadyH.nil
     refine step_append tI_ok rfl _ _ rfl rfl OA rfl ((HL.out.later G).take at0 (by simp only [HN.out]; omega)) (by first | (simp; done) | (simp only [List.length_nil, List.length_take]; omega)) G.size ?_
     intro v1 WB OB hGB _
     have G1 := grow_append G OA (Nat.le_refl _) hGB
     rw [List.nil_append] at OB
     have RC1 := RC.kept hGB (by simp only [Value.ownBlock]; intro e; injection e with e; exact hne e.symm)
     clear RC hne
     have RC := RC1
     clear RC1
     clear G OA hGB
     have G := G1
     clear G1
     clear hHeld
     refine hK.out _ _ (G) (fun hHeld => ?_)
     clear hK K
     try simp only [pA, pB, pC]
     refine tlA #[true, true, true, true, true, true, true, false, true, true, true, false, false] ?_
     refine trA [7] ?_
     refine AllReadyH.cons (o := ⟨some 28, .call { callee := .builtin .append, args := #[.tmp 25, .tmp 27], argTypes := #[22, 22] }, 22, _, _, none⟩) rfl (fun K hK => ?_) AllReadyH.nil
     refine step_append tI_ok rfl _ _ rfl rfl OB rfl RC (by first | (simp; done) | (simp only [List.length_singleton, List.length_take]; omega)) G.size ?_
     intro v2 WD OD hGD _
     have G1 := grow_append G OB (Nat.le_refl _) hGD
     clear G OB RC hGD
     have G := G1
     clear G1
     clear hHeld
     refine hK.out _ _ (G) (fun hHeld => ?_)
     clear hK K
     try simp only [pA, pB, pC]
     refine tlA #[true, true, true, true, true, true, true, true, true, true, true, false, false] ?_
     refine trA [11] ?_
     refine AllReadyH.cons (o := ⟨some 32, .call { callee := .builtin .append, args := #[.tmp 28, .tmp 31], argTypes := #[22, 22] }, 22, _, _, none⟩) rfl (fun K hK => ?_) AllReadyH.nil
     refine step_append tI_ok rfl _ _ rfl rfl OD rfl ((HL.out.later G).droptI at0 (by simp only [HN.out]; omega) hoo) (by first | (simp; done) | (simp only [List.length_append, List.length_singleton, List.length_take, List.length_drop, HN.out]; omega)) G.size ?_
     intro v3 WE OE hGE _
     have G1 := grow_append G OD (Nat.le_refl _) hGE
     clear G OD hGE
     have G := G1
     clear G1
     clear hHeld
     refine hK.out _ _ (G) (fun hHeld => ?_)
     clear hK K
     try simp only [pA, pB, pC]
     refine tlA #[true, true, true, true, true, true, true, true, true, true, true, true, false] ?_
     refine trA [12] ?_
     refine AllReadyH.cons (o := ⟨some 4, .assign (.tmp 32), 22, _, _, none⟩) rfl (fun K hK => ?_) AllReadyH.nil
     go_wp2_with fail
     clear hHeld
     refine hK.out _ _ (G) (fun hHeld => ?_)
     clear hK K
     try simp only [pA, pB, pC]
     refine tlA #[true, true, true, true, true, true, true, true, true, true, true, true, true] ?_
     refine wpAnyH_done (by kernel_rfl) ?_ _
     clear hHeld
     go_wp2_with fail
     go_ret
     exact ⟨⟨_, rfl, by rw [HE.out]; rw [List.append_assoc] at OE; exact OE⟩, G⟩

end Go.Proofs.YtoaldbjcpfkcjaaGreat.G
