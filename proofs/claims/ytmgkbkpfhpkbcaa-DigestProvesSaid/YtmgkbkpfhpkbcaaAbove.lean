/- The next level of digest's tree. -/
import Derived.Test.YtmgkbkpfhpkbcaaLow
namespace Go.Proofs.Ytmgkbkpfhpkbcaa
open Go.RowKit Go.Lib

attribute [local go_sem] str

/-- What stays while a level is written into a row of the call's own; k of its digests stand. -/
structure UC (w : World) (g : Nat) (n : Nat) (ds : List (List UInt8)) (k : Nat) (W : World) : Prop where
  done : ∀ j d, (ds.take k)[j]? = some d → W.rangeAt g (j * 8) (bc d)
  th : ∀ j, j < n → W.there g (j * 8) 8
  gr : Grows w W
  hg : w.heap.size ≤ g
  lg : g < W.heap.size
  kd : Kd g W
theorem UC.later {w W W' : World} {g n k : Nat} {ds : List (List UInt8)} (h : UC w g n ds k W) (gr : Grows W W') : UC w g n ds k W' :=
  ⟨fun j d hd => range_later (h.done j d hd) gr h.lg, fun j hj => there_later (h.th j hj) gr h.lg, h.gr.then gr, h.hg, Nat.lt_of_lt_of_le h.lg gr.size, h.kd.later gr⟩
theorem UC.put {w W : World} {g n k : Nat} {ds : List (List UInt8)} (h : UC w g n ds k W) (h8 : ∀ d ∈ ds, d.length = 8) (hk : k < ds.length) (hkn : k < n) : UC w g n ds (k + 1) (W.setCells g (k * 8) (bc ds[k])) := by
  have hd8 := h8 ds[k] (List.getElem_mem hk)
  refine ⟨fun j d hd => ?_, fun j hj => World.there_setCells (h.th j hj) _ _ _, grows_set h.gr h.hg, h.hg, by rw [set_size]; exact h.lg, h.kd.set _ _ _⟩
  rw [take_snoc ds k hk] at hd
  have hlk : (ds.take k).length = k := List.length_take_of_le (by omega)
  rcases Nat.lt_or_ge j k with hj | hj
  · rw [List.getElem?_append_left (by omega)] at hd
    have hd8' := h8 d (List.mem_of_mem_take (List.mem_of_getElem? hd))
    refine World.rangeAt_setCells_apart (h.done j d hd) _ _ _ (.inr (.inl ?_))
    rw [bc_length, hd8']; omega
  · rw [List.getElem?_append_right (by omega), hlk] at hd
    obtain rfl : j = k := by
      have := (List.getElem?_eq_some_iff.1 hd).1
      simp at this; omega
    rw [Nat.sub_self] at hd
    simp at hd
    rw [← hd]
    exact range_set (Lib.hid hd8) (h.th j hkn)
theorem UC.again {w W : World} {g n k : Nat} {ds : List (List UInt8)} (h : UC w g n ds k W) (h8 : ∀ d ∈ ds, d.length = 8) (D : List UInt8) : UC w g n ds k (W.setCells g (k * 8) (bc D)) := by
  refine ⟨fun j d hd => ?_, fun j hj => World.there_setCells (h.th j hj) _ _ _, grows_set h.gr h.hg, h.hg, by rw [set_size]; exact h.lg, h.kd.set _ _ _⟩
  have hd8 := h8 d (List.mem_of_mem_take (List.mem_of_getElem? hd))
  have hj : j < k := by
    have := (List.getElem?_eq_some_iff.1 hd).1
    rw [List.length_take] at this; omega
  refine World.rangeAt_setCells_apart (h.done j d hd) _ _ _ (.inr (.inl ?_))
  rw [bc_length, hd8]; omega

set_option linter.unusedSimpArgs false in
set_option maxHeartbeats 1000000 in
theorem above_any (b : Nat) (ds : List (List UInt8)) (w : World) (hsrc : ∀ j d, ds[j]? = some d → w.rangeAt b (j * 8) (bc d)) (hb : b < w.heap.size) (h8 : ∀ d ∈ ds, d.length = 8) (h32 : ds.length ≤ 32) :
    Calls Try.prog 45 #[.slice (some ⟨b, 0, none⟩) ds.length ds.length] w fun e w' => ∃ g, e = .returned (.slice (some ⟨g, 0, none⟩) (upL ds).length (upL ds).length) ∧ (∀ j d, (upL ds)[j]? = some d → w'.rangeAt g (j * 8) (bc d)) ∧ w.heap.size ≤ g ∧ (g < w'.heap.size ∧ Kd g w') ∧ Grows w w' := by
  have HM := Lib.hid (make8 (ds.length / 2) (by omega))
  have E := Lib.hid (show (ds.length : Int) / 2 = ((ds.length / 2 : Nat) : Int) by omega)
  have HS := Lib.hid hsrc
  have H8 := Lib.hid h8
  have H8u := Lib.hid (all8_up ds)
  have HN := Lib.hid (upL_length ds)
  clear hsrc h8
  go_enter Try.func45, Try.ntmps45
  go_wp2_with fail
  rw [E.out]
  obtain ⟨w1, e1, g1, s1, t1, kd1⟩ := HM.out w
  rw [e1]
  simp only [Result.andThen]
  rw [Oper.upon_value]
  rw [← HN.out] at t1 ⊢
  have C0 : UC w w.heap.size (upL ds).length (upL ds) 0 w1 := ⟨fun j d hd => by simp at hd, t1, g1, Nat.le_refl _, s1, kd1⟩
  clear e1 HM t1 g1 s1 kd1
  go_wp2_with fail
  go_loopw [11] (fun i wr => ∃ k : Nat, k ≤ (upL ds).length ∧ i = .int .i64 k ∧ UC w w.heap.size (upL ds).length (upL ds) k wr) (fun i _ => (upL ds).length - (RowKit.intOf i).toNat)
  case atStart => exact ⟨0, Nat.zero_le _, rfl, C0⟩
  case round =>
    clear C0
    obtain ⟨k, hk, rfl, C0⟩ := hrel
    by_cases hlt : k < (upL ds).length
    · have hn := HN.out
      have h2k : 2 * k < ds.length := by omega
      have h2k1 : 2 * k + 1 < ds.length := by omega
      have rx := range_later (HS.out (2 * k) ds[2 * k] (List.getElem?_eq_getElem h2k)) C0.gr hb
      have ry := range_later (HS.out (2 * k + 1) ds[2 * k + 1] (List.getElem?_eq_getElem h2k1)) C0.gr hb
      have hx8 := Lib.hid (H8.out ds[2 * k] (List.getElem_mem h2k))
      have hy8 := Lib.hid (H8.out ds[2 * k + 1] (List.getElem_mem h2k1))
      have hd8 := Lib.hid (H8u.out _ (List.getElem_mem hlt))
      have hD : Hid (dig (4 :: (ds[2 * k] ++ ds[2 * k + 1])) = (upL ds)[k]) := Lib.hid (by
        have h := upL_at ds k (by omega)
        rw [List.getElem?_eq_getElem hlt] at h
        refine Eq.trans ?_ h.symm
        unfold pair
        rw [List.getElem?_eq_getElem h2k, List.getElem?_eq_getElem h2k1]
        rfl)
      have HP := Lib.hid (fun (W : World) (h : UC w w.heap.size (upL ds).length (upL ds) k W) => h.put H8u.out hlt hlt)
      have hbw : b < wr.heap.size := Nat.lt_of_lt_of_le hb C0.gr.size
      have hbg : b ≠ w.heap.size := by omega
      generalize ds[2 * k] = x at *
      generalize ds[2 * k + 1] = y at *
      generalize (upL ds)[k] = D at *
      have n1 : (0 : Int) ≤ (k : Int) := by omega
      have n2 : (k : Int) < ((upL ds).length : Int) := by omega
      have n3 : IntKind.i64.wrap (2 * (k : Int)) = 2 * (k : Int) := IntWalk.i64_in _ (by omega)
      have n4 : IntKind.i64.wrap (2 * (k : Int) + 1) = 2 * (k : Int) + 1 := IntWalk.i64_in _ (by omega)
      have n5 : (2 * (k : Int)).toNat = 2 * k := by omega
      have n6 : (2 * (k : Int) + 1).toNat = 2 * k + 1 := by omega
      have n7 : 2 * (k : Int) < (ds.length : Int) := by omega
      have n8 : 2 * (k : Int) + 1 < (ds.length : Int) := by omega
      have n9 : (0 : Int) ≤ 2 * (k : Int) := by omega
      have n10 : (0 : Int) ≤ 2 * (k : Int) + 1 := by omega
      clear hn
      go_wp2_with fail
      refine wp_region_held_drew (S := fun W => UC w w.heap.size (upL ds).length (upL ds) k W ∧ W.rangeAt b (2 * k * 8) (bc x) ∧ W.rangeAt b ((2 * k + 1) * 8) (bc y)) (by kernel_rfl) ⟨C0.later (Below.refl _ _).drew, range_later rx (Below.refl _ _).drew hbw, range_later ry (Below.refl _ _).drew hbw⟩ (fun hHeld => ?_)
      refine wpAnyT_begin [0, 1, 2, 3, 4, 5, 6, 7, 8, 9, 10, 11, 12] (by kernel_rfl) (by kernel_rfl) ?_
      refine wpAnyT_take (oi := ⟨some 14, Op.move (Operand.tmp 3), 62, _, _, none⟩) (v := .slice (some ⟨w.heap.size, 0, none⟩) (upL ds).length (upL ds).length) rfl (fun _ _ _ h => h) (by rfl) (by assumption) (fun wS hSw => ?_) ?_
      · clear hSw; go_simp <;> omega
      simp only [Act.put, List.setIfInBounds_toArray, List.set_cons_zero, List.set_cons_succ]
      refine wpAnyT_take (oi := ⟨some 15, Op.move (Operand.tmp 4), 3, _, _, none⟩) (v := .int .i64 (k : Int)) rfl (fun _ _ _ h => h) (by rfl) (by assumption) (fun wS hSw => ?_) ?_
      · clear hSw; go_simp <;> omega
      simp only [Act.put, List.setIfInBounds_toArray, List.set_cons_zero, List.set_cons_succ]
      refine wpAnyT_take (oi := ⟨some 16, Op.move (Operand.tmp 0), 62, _, _, none⟩) (v := .slice (some ⟨b, 0, none⟩) ds.length ds.length) rfl (fun _ _ _ h => h) (by rfl) (by assumption) (fun wS hSw => ?_) ?_
      · clear hSw; go_simp <;> omega
      simp only [Act.put, List.setIfInBounds_toArray, List.set_cons_zero, List.set_cons_succ]
      refine wpAnyT_take (oi := ⟨some 17, Op.move (Operand.tmp 4), 3, _, _, none⟩) (v := .int .i64 (k : Int)) rfl (fun _ _ _ h => h) (by rfl) (by assumption) (fun wS hSw => ?_) ?_
      · clear hSw; go_simp <;> omega
      simp only [Act.put, List.setIfInBounds_toArray, List.set_cons_zero, List.set_cons_succ]
      refine wpAnyT_take (oi := ⟨some 18, Op.binOp BinOp.mul 3 (Operand.const (Value.int IntKind.i64 2)) (Operand.tmp 17) 3, 3, _, _, none⟩) (v := .int .i64 (2 * (k : Int))) rfl (fun _ _ _ h => h) (by rfl) (by assumption) (fun wS hSw => ?_) ?_
      · clear hSw; go_simp <;> omega
      simp only [Act.put, List.setIfInBounds_toArray, List.set_cons_zero, List.set_cons_succ]
      refine wpAnyT_take (oi := ⟨some 19, Op.indexAddr 62 (Operand.tmp 16) (Operand.tmp 18), 0, _, _, none⟩) (v := .pointer (some ⟨b, 2 * k * 8, none⟩)) rfl (fun _ _ _ h => h) (by rfl) (by assumption) (fun wS hSw => ?_) ?_
      · clear hSw; go_simp <;> omega
      simp only [Act.put, List.setIfInBounds_toArray, List.set_cons_zero, List.set_cons_succ]
      refine wpAnyT_take (oi := ⟨some 20, Op.load 52 (Operand.tmp 19), 52, _, _, none⟩) (v := agg8 x) rfl (fun _ _ _ h => h) (by rfl) (by assumption) (fun wS hSw => exec8 _ rfl rfl hx8 hSw.2.1) ?_
      simp only [Act.put, List.setIfInBounds_toArray, List.set_cons_zero, List.set_cons_succ]
      refine wpAnyT_take (oi := ⟨some 21, Op.move (Operand.tmp 0), 62, _, _, none⟩) (v := .slice (some ⟨b, 0, none⟩) ds.length ds.length) rfl (fun _ _ _ h => h) (by rfl) (by assumption) (fun wS hSw => ?_) ?_
      · clear hSw; go_simp <;> omega
      simp only [Act.put, List.setIfInBounds_toArray, List.set_cons_zero, List.set_cons_succ]
      refine wpAnyT_take (oi := ⟨some 22, Op.move (Operand.tmp 4), 3, _, _, none⟩) (v := .int .i64 (k : Int)) rfl (fun _ _ _ h => h) (by rfl) (by assumption) (fun wS hSw => ?_) ?_
      · clear hSw; go_simp <;> omega
      simp only [Act.put, List.setIfInBounds_toArray, List.set_cons_zero, List.set_cons_succ]
      refine wpAnyT_take (oi := ⟨some 23, Op.binOp BinOp.mul 3 (Operand.const (Value.int IntKind.i64 2)) (Operand.tmp 22) 3, 3, _, _, none⟩) (v := .int .i64 (2 * (k : Int))) rfl (fun _ _ _ h => h) (by rfl) (by assumption) (fun wS hSw => ?_) ?_
      · clear hSw; go_simp <;> omega
      simp only [Act.put, List.setIfInBounds_toArray, List.set_cons_zero, List.set_cons_succ]
      refine wpAnyT_take (oi := ⟨some 24, Op.binOp BinOp.add 3 (Operand.tmp 23) (Operand.const (Value.int IntKind.i64 1)) 3, 3, _, _, none⟩) (v := .int .i64 (2 * (k : Int) + 1)) rfl (fun _ _ _ h => h) (by rfl) (by assumption) (fun wS hSw => ?_) ?_
      · clear hSw; go_simp <;> omega
      simp only [Act.put, List.setIfInBounds_toArray, List.set_cons_zero, List.set_cons_succ]
      refine wpAnyT_take (oi := ⟨some 25, Op.indexAddr 62 (Operand.tmp 21) (Operand.tmp 24), 0, _, _, none⟩) (v := .pointer (some ⟨b, (2 * k + 1) * 8, none⟩)) rfl (fun _ _ _ h => h) (by rfl) (by assumption) (fun wS hSw => ?_) ?_
      · clear hSw; go_simp <;> omega
      simp only [Act.put, List.setIfInBounds_toArray, List.set_cons_zero, List.set_cons_succ]
      refine wpAnyT_take (oi := ⟨some 26, Op.load 52 (Operand.tmp 25), 52, _, _, none⟩) (v := agg8 y) rfl (fun _ _ _ h => h) (by rfl) (by assumption) (fun wS hSw => exec8 _ rfl rfl hy8 hSw.2.2) ?_
      simp only [Act.put, List.setIfInBounds_toArray, List.set_cons_zero, List.set_cons_succ]
      refine wpAnyT_end ?_
      refine wpAnyH_listed #[true, true, true, true, true, true, true, true, true, true, true, true, true, false, false, false] (by kernel_rfl) ?_
      refine wpAnyH_ready (rs := [13]) (by kernel_rfl) (by simp) ?_
      refine AllReadyH.cons (o := ⟨some 27, Op.call { callee := Callee.value (Operand.func 41), args := #[Operand.tmp 20, Operand.tmp 26], argTypes := #[52, 52] }, 52, _, _, none⟩) rfl (fun K hK => ?_) AllReadyH.nil
      go_simp
      go_at_call 41
      refine (node_any x y _ hx8.out hy8.out).mono ?_
      rintro e w5 ⟨rfl, g5⟩
      rw [hD.out]
      have g6 : Grows wr w5 := Grows.then (Below.refl _ _).drew g5
      have C5 := C0.later g6
      have rx5 := range_later rx g6 hbw
      have ry5 := range_later ry g6 hbw
      go_wp2_with fail
      clear hHeld
      refine hK.out _ _ (⟨C5, rx5, ry5⟩) (fun hHeld => ?_)
      clear hK K
      try simp only [Act.put, List.setIfInBounds_toArray, List.set_cons_zero, List.set_cons_succ]
      refine wpAnyT_begin [14] (by kernel_rfl) (by kernel_rfl) ?_
      refine wpAnyT_take (oi := ⟨some 28, Op.indexAddr 62 (Operand.tmp 14) (Operand.tmp 15), 0, _, _, none⟩) (v := .pointer (some ⟨w.heap.size, k * 8, none⟩)) rfl (fun _ _ _ h => h) (by rfl) (by assumption) (fun wS hSw => ?_) ?_
      · clear hSw; go_simp <;> omega
      simp only [Act.put, List.setIfInBounds_toArray, List.set_cons_zero, List.set_cons_succ]
      refine wpAnyT_end ?_
      refine wpAnyH_ready (rs := [15]) (by kernel_rfl) (by simp) ?_
      refine AllReadyH.cons (o := ⟨none, Op.store 52 (Operand.tmp 28) (Operand.tmp 27), 0, _, _, none⟩) rfl (fun K hK => ?_) AllReadyH.nil
      rw [if_pos (by rfl)]
      refine wp_store_mid 52 _ _ rfl _ _ (bc D).toArray rfl rfl (there8 hd8 (C5.th k hlt)) (info52a hd8.out) (all_oneCell_toArray (bc_one D)) ?_
      clear hHeld
      refine hK.out _ _ (⟨C5.again H8u.out D, World.rangeAt_setCells_apart rx5 _ _ _ (.inl hbg), World.rangeAt_setCells_apart ry5 _ _ _ (.inl hbg)⟩) (fun hHeld => ?_)
      clear hK K
      try simp only [Act.put, List.setIfInBounds_toArray, List.set_cons_zero, List.set_cons_succ]
      refine wpAnyH_done (by kernel_rfl) ?_ _
      have C7 := HP.out _ C5
      clear n3 n4 n5 n6 n7 n8 n9 n10
      go_wp2_with fail
      go_roundw
      case rel => exact ⟨k + 1, by omega, by go_num, C7⟩
      case measure => simp [RowKit.intOf]; omega
    · obtain rfl : k = (upL ds).length := by omega
      have hd := C0.done
      rw [List.take_length] at hd
      have HD := Lib.hid hd
      clear hd
      go_wp2_with fail
      go_ret
      exact ⟨_, rfl, HD.out, Nat.le_refl _, ⟨C0.lg, C0.kd⟩, C0.gr⟩

end Go.Proofs.Ytmgkbkpfhpkbcaa
