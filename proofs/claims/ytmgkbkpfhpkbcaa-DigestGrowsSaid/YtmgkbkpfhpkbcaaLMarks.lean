/- The law DigestMarks: its walk. -/
import Derived.Test.YtmgkbkpfhpkbcaaLOf
namespace Go.Proofs.Ytmgkbkpfhpkbcaa
open Go.RowKit Go.Lib

attribute [local go_sem] str

/-- A string, a place and a byte, in a block of their own. -/
structure OC (w : World) (s : List UInt8) (at' c : Nat) (W : World) : Prop where
  c0 : W.cell? ⟨w.heap.size, 0, none⟩ = some (.string ⟨s.toArray⟩)
  c1 : W.cell? ⟨w.heap.size, 1, none⟩ = some (.int .u8 (at' : Int))
  c2 : W.cell? ⟨w.heap.size, 2, none⟩ = some (.int .u8 (c : Int))
  g : Grows w W
theorem OC.later {w W W' : World} {s : List UInt8} {at' c : Nat} (h : OC w s at' c W) (g : Grows W W') : OC w s at' c W' :=
  ⟨(g.cell (World.block_lt_of_cell? W _ h.c0)).trans h.c0, (g.cell (World.block_lt_of_cell? W _ h.c1)).trans h.c1, (g.cell (World.block_lt_of_cell? W _ h.c2)).trans h.c2, h.g.then g⟩
theorem OC.alloc {w W : World} {s : List UInt8} {at' c : Nat} (h : OC w s at' c W) (o : Obj) : OC w s at' c (W.alloc o) := h.later ((Below.refl _ _).alloc (Nat.le_refl _) o)
theorem OC.drew {w W : World} {s : List UInt8} {at' c : Nat} (h : OC w s at' c W) : OC w s at' c W.drew := h.later (Below.refl _ _).drew
theorem OC.start (w : World) (s : List UInt8) (at' c : Nat) : OC w s at' c (w.alloc (.cells #[.string ⟨s.toArray⟩, .int .u8 (at' : Int), .int .u8 (c : Int)] 27)) :=
  ⟨by rw [World.cell?_alloc_new]; rfl, by rw [World.cell?_alloc_new]; rfl, by rw [World.cell?_alloc_new]; rfl, (Below.refl _ _).alloc (Nat.le_refl _) _⟩
theorem extract_take' (l : List UInt8) (k : Nat) : ByteArray.extract ⟨l.toArray⟩ 0 k = ⟨(l.take k).toArray⟩ := by
  apply ByteArray.ext
  rw [ByteArray.data_extract]
  apply Array.ext'
  simp

set_option linter.unusedSimpArgs false in
set_option maxHeartbeats 1000000 in
theorem law_marks (k m s : List UInt8) (at' c : Nat) (w : World) (hk0 : (k.length : Int) ≤ 9223372036854775807) (hm0 : (m.length : Int) ≤ 9223372036854775807) (hs0 : (s.length : Int) ≤ 9223372036854775807) (ha : at' < 256) (hc : c < 256) :
    Calls Try.prog 4 #[str k, str m, .agg #[str s, .int .u8 (at' : Int), .int .u8 (c : Int)]] w fun e w' => e = .returned (.bool true) ∧ Grows w w' := by
  go_enter Try.func4, Try.ntmps4
  go_wp2_with fail
  have C0 := OC.start w s at' c
  refine (sane _).mono ?_; rintro e w1 ⟨rfl, g1⟩
  have C1 := C0.later g1
  clear C0 g1
  go_wp2_with fail
  refine (cut_any k _ hk0).mono ?_; rintro e w2 ⟨rfl, rfl⟩; go_wp2_with fail
  refine (cut_any m _ hm0).mono ?_; rintro e w2 ⟨rfl, rfl⟩; go_wp2_with fail
  have hk : (k.take 200).length ≤ 100000 := by rw [List.length_take]; omega
  have hm : (m.take 200).length ≤ 100000 := by rw [List.length_take]; omega
  generalize hkk : k.take 200 = k' at *
  generalize hmm : m.take 200 = m' at *
  clear hkk hmm
  have Hk := Lib.hid hk
  have Hm := Lib.hid hm
  clear hk hm
  refine (rmark_any k' m' _ Hk.out Hm.out).mono ?_; rintro e w2 ⟨rfl, g2⟩
  have C2 := C1.later g2
  clear C1 g2
  have hM8 : (dig (marked k' m')).length = 8 := dig_length _
  have HM := Lib.hid (show Hid (∀ W, Calls Try.prog 20 #[str k', str m'] W fun e w' => e = .returned (str (dig (marked k' m'))) ∧ Grows W w') from Lib.hid fun W => mark_any k' m' W Hk.out Hm.out)
  generalize dig (marked k' m') = M at *
  have hr : (s.take 20).length ≤ 100000 := by rw [List.length_take]; omega
  have Hr := Lib.hid hr
  have hm1 : (if (20 : Int) < (s.length : Int) then (20 : Int) else (s.length : Int)) = ((min s.length 20 : Nat) : Int) := min_if s.length 20
  have hx := extract_take s 20
  have hm2 : (0 : Int) ≤ ((min s.length 20 : Nat) : Int) := by omega
  have hm3 : ((min s.length 20 : Nat) : Int) ≤ (s.length : Int) := by omega
  generalize min s.length 20 = n0 at *
  clear hr
  have hq : 0 < M.length := by omega
  have hM9 : M.length ≤ 8 := by omega
  clear hM8
  have hlt : at' % M.length < M.length := Nat.mod_lt _ hq
  have hm : ((at' : Int)).tmod (M.length : Int) = ((at' % M.length : Nat) : Int) := by
    rw [Int.tmod_eq_emod_of_nonneg (by omega)]; rfl
  generalize at' % M.length = kk at *
  have hx2 := extract_take' M kk
  have b1 : (0 : Int) ≤ (kk : Int) := by omega
  have b2 : (kk : Int) ≤ (M.length : Int) := by omega
  have C := C2
  obtain ⟨c0, c1, c2, -⟩ := C2
  have HMM := HM.out
  have hMne := Lib.hid (show ¬ M = [] by intro e; rw [e] at hq; simp at hq)
  go_wp2_with fail
  clear c0 c1 c2 hm1 hx hm2 hm3
  generalize s.take 20 = r at *
  refine wp_region_noPanic ?_
  refine wp_region_held_drew (S := fun W => OC w s at' c W) (by kernel_rfl) C.drew (fun hHeld => ?_)
  refine wpAnyT_begin [0, 1, 2, 4, 5, 6, 7, 8, 9, 10, 11, 12, 13, 14, 16, 17, 21] (by kernel_rfl) (by kernel_rfl) ?_
  refine wpAnyT_take (oi := ⟨some 27, Op.move (Operand.tmp 8), 9, _, _, none⟩) (v := .string ⟨M.toArray⟩) rfl (fun _ _ _ h => h) (by rfl) (by assumption) (fun wS hSw => ?_) ?_
  · clear hSw; go_simp
  simp only [Act.put, List.setIfInBounds_toArray, List.set_cons_zero, List.set_cons_succ]
  refine wpAnyT_take (oi := ⟨some 28, Op.load 27 (Operand.tmp 5), 27, _, _, none⟩) (v := .agg #[.string ⟨s.toArray⟩, .int .u8 (at' : Int), .int .u8 (c : Int)]) rfl (fun _ _ _ h => h) (by rfl) (by assumption) (fun wS hSw => ?_) ?_
  · (obtain ⟨c0, c1, c2, -⟩ := hSw); go_simp
  simp only [Act.put, List.setIfInBounds_toArray, List.set_cons_zero, List.set_cons_succ]
  refine wpAnyT_take (oi := ⟨some 29, Op.move (Operand.tmp 8), 9, _, _, none⟩) (v := .string ⟨M.toArray⟩) rfl (fun _ _ _ h => h) (by rfl) (by assumption) (fun wS hSw => ?_) ?_
  · clear hSw; go_simp
  simp only [Act.put, List.setIfInBounds_toArray, List.set_cons_zero, List.set_cons_succ]
  refine wpAnyT_take (oi := ⟨some 31, Op.move (Operand.tmp 9), 9, _, _, none⟩) (v := .string ⟨r.toArray⟩) rfl (fun _ _ _ h => h) (by rfl) (by assumption) (fun wS hSw => ?_) ?_
  · clear hSw; go_simp
  simp only [Act.put, List.setIfInBounds_toArray, List.set_cons_zero, List.set_cons_succ]
  refine wpAnyT_take (oi := ⟨some 32, Op.move (Operand.tmp 8), 9, _, _, none⟩) (v := .string ⟨M.toArray⟩) rfl (fun _ _ _ h => h) (by rfl) (by assumption) (fun wS hSw => ?_) ?_
  · clear hSw; go_simp
  simp only [Act.put, List.setIfInBounds_toArray, List.set_cons_zero, List.set_cons_succ]
  refine wpAnyT_take (oi := ⟨some 33, Op.fieldAddr 27 (Operand.tmp 5) 1, 0, _, _, none⟩) (v := .pointer (some ⟨w.heap.size, 1, none⟩)) rfl (fun _ _ _ h => h) (by rfl) (by assumption) (fun wS hSw => ?_) ?_
  · clear hSw; go_simp
  simp only [Act.put, List.setIfInBounds_toArray, List.set_cons_zero, List.set_cons_succ]
  refine wpAnyT_take (oi := ⟨some 34, Op.load 5 (Operand.tmp 33), 5, _, _, none⟩) (v := .int .u8 (at' : Int)) rfl (fun _ _ _ h => h) (by rfl) (by assumption) (fun wS hSw => ?_) ?_
  · (obtain ⟨c0, c1, c2, -⟩ := hSw); go_simp
  simp only [Act.put, List.setIfInBounds_toArray, List.set_cons_zero, List.set_cons_succ]
  refine wpAnyT_take (oi := ⟨some 35, Op.convert 5 3 (Operand.tmp 34), 3, _, _, none⟩) (v := .int .i64 (at' : Int)) rfl (fun _ _ _ h => h) (by rfl) (by assumption) (fun wS hSw => ?_) ?_
  · clear hSw; go_simp; exact IntWalk.i64_in _ (by omega)
  simp only [Act.put, List.setIfInBounds_toArray, List.set_cons_zero, List.set_cons_succ]
  refine wpAnyT_take (oi := ⟨some 36, Op.move (Operand.tmp 8), 9, _, _, none⟩) (v := .string ⟨M.toArray⟩) rfl (fun _ _ _ h => h) (by rfl) (by assumption) (fun wS hSw => ?_) ?_
  · clear hSw; go_simp
  simp only [Act.put, List.setIfInBounds_toArray, List.set_cons_zero, List.set_cons_succ]
  refine wpAnyT_take (oi := ⟨some 37, Op.call { callee := Callee.builtin Builtin.len, args := #[Operand.tmp 36], argTypes := #[9] }, 3, _, _, none⟩) (v := .int .i64 (M.length : Int)) rfl (fun _ _ _ h => h) (by rfl) (by assumption) (fun wS hSw => ?_) ?_
  · clear hSw; go_simp
  simp only [Act.put, List.setIfInBounds_toArray, List.set_cons_zero, List.set_cons_succ]
  refine wpAnyT_take (oi := ⟨some 38, Op.binOp BinOp.rem 3 (Operand.tmp 35) (Operand.tmp 37) 3, 3, _, _, none⟩) (v := .int .i64 (kk : Int)) rfl (fun _ _ _ h => h) (by rfl) (by assumption) (fun wS hSw => ?_) ?_
  · clear hSw; go_simp; exact hMne.out
  simp only [Act.put, List.setIfInBounds_toArray, List.set_cons_zero, List.set_cons_succ]
  refine wpAnyT_take (oi := ⟨some 39, Op.slice 9 (Operand.tmp 32) none (some (Operand.tmp 38)) none, 9, _, _, none⟩) (v := .string ⟨(M.take kk).toArray⟩) rfl (fun _ _ _ h => h) (by rfl) (by assumption) (fun wS hSw => ?_) ?_
  · clear hSw; go_simp
  simp only [Act.put, List.setIfInBounds_toArray, List.set_cons_zero, List.set_cons_succ]
  refine wpAnyT_take (oi := ⟨some 40, Op.move (Operand.tmp 1), 9, _, _, none⟩) (v := .string ⟨m'.toArray⟩) rfl (fun _ _ _ h => h) (by rfl) (by assumption) (fun wS hSw => ?_) ?_
  · clear hSw; go_simp
  simp only [Act.put, List.setIfInBounds_toArray, List.set_cons_zero, List.set_cons_succ]
  refine wpAnyT_take (oi := ⟨some 41, Op.move (Operand.tmp 0), 9, _, _, none⟩) (v := .string ⟨k'.toArray⟩) rfl (fun _ _ _ h => h) (by rfl) (by assumption) (fun wS hSw => ?_) ?_
  · clear hSw; go_simp
  simp only [Act.put, List.setIfInBounds_toArray, List.set_cons_zero, List.set_cons_succ]
  refine wpAnyT_take (oi := ⟨some 43, Op.move (Operand.tmp 9), 9, _, _, none⟩) (v := .string ⟨r.toArray⟩) rfl (fun _ _ _ h => h) (by rfl) (by assumption) (fun wS hSw => ?_) ?_
  · clear hSw; go_simp
  simp only [Act.put, List.setIfInBounds_toArray, List.set_cons_zero, List.set_cons_succ]
  refine wpAnyT_take (oi := ⟨some 44, Op.move (Operand.tmp 1), 9, _, _, none⟩) (v := .string ⟨m'.toArray⟩) rfl (fun _ _ _ h => h) (by rfl) (by assumption) (fun wS hSw => ?_) ?_
  · clear hSw; go_simp
  simp only [Act.put, List.setIfInBounds_toArray, List.set_cons_zero, List.set_cons_succ]
  refine wpAnyT_take (oi := ⟨some 48, Op.move (Operand.const (Value.int IntKind.i64 0)), 3, _, _, none⟩) (v := .int .i64 0) rfl (fun _ _ _ h => h) (by rfl) (by assumption) (fun wS hSw => ?_) ?_
  · clear hSw; go_simp
  simp only [Act.put, List.setIfInBounds_toArray, List.set_cons_zero, List.set_cons_succ]
  refine wpAnyT_end ?_
  refine wpAnyH_listed #[true, true, true, false, true, true, true, true, true, true, true, true, true, true, true, false, true, true, false, false, false, true] (by kernel_rfl) ?_
  have C := C.drew
  refine wpAnyH_ready (rs := [3]) (by kernel_rfl) (by simp) ?_
  refine AllReadyH.cons (o := ⟨some 30, Op.call { callee := Callee.value (Operand.func 17), args := #[Operand.tmp 28, Operand.tmp 29], argTypes := #[27, 9] }, 9, _, _, none⟩) rfl (fun K hK => ?_) AllReadyH.nil
  go_simp
  go_at_call 17
  refine (change_any _ at' c M _ (by omega) ha hc).mono ?_
  rintro e w3 ⟨rfl, g3⟩
  have C3 := C.later g3
  clear g3 C
  have C := C3
  clear C3
  go_wp2_with fail
  clear hHeld
  refine hK.out _ _ (C) (fun hHeld => ?_)
  clear hK K
  try simp only [Act.put, List.setIfInBounds_toArray, List.set_cons_zero, List.set_cons_succ]
  refine wpAnyH_ready (rs := [15]) (by kernel_rfl) (by simp) ?_
  refine AllReadyH.cons (o := ⟨some 42, Op.call { callee := Callee.value (Operand.func 16), args := #[Operand.tmp 40, Operand.tmp 41], argTypes := #[9, 9] }, 9, _, _, none⟩) rfl (fun K hK => ?_) AllReadyH.nil
  go_simp
  go_at_call 16
  refine (rmark_any m' k' _ Hm.out Hk.out).mono ?_
  rintro e w4 ⟨rfl, g4⟩
  have C4 := C.later g4
  clear g4 C
  have C := C4
  clear C4
  go_wp2_with fail
  clear hHeld
  refine hK.out _ _ (C) (fun hHeld => ?_)
  clear hK K
  try simp only [Act.put, List.setIfInBounds_toArray, List.set_cons_zero, List.set_cons_succ]
  refine wpAnyH_ready (rs := [18]) (by kernel_rfl) (by simp) ?_
  refine AllReadyH.cons (o := ⟨some 45, Op.call { callee := Callee.value (Operand.func 16), args := #[Operand.tmp 43, Operand.tmp 44], argTypes := #[9, 9] }, 9, _, _, none⟩) rfl (fun K hK => ?_) AllReadyH.nil
  go_simp
  go_at_call 16
  refine (rmark_any r m' _ Hr.out Hm.out).mono ?_
  rintro e w5 ⟨rfl, g5⟩
  have C5 := C.later g5
  clear g5 C
  have C := C5
  clear C5
  go_wp2_with fail
  clear hHeld
  refine hK.out _ _ (C) (fun hHeld => ?_)
  clear hK K
  try simp only [Act.put, List.setIfInBounds_toArray, List.set_cons_zero, List.set_cons_succ]
  refine wpAnyH_ready (rs := [19]) (by kernel_rfl) (by simp) ?_
  refine AllReadyH.cons (o := ⟨some 46, Op.buildSlice 28 6 #[(0, Operand.tmp 27), (1, Operand.tmp 30), (2, Operand.tmp 31), (3, Operand.tmp 39), (4, Operand.tmp 42), (5, Operand.tmp 45)], 28, _, _, none⟩) rfl (fun K hK => ?_) AllReadyH.nil
  go_simp
  clear hHeld
  refine hK.out _ _ (C.alloc _) (fun hHeld => ?_)
  clear hK K
  try simp only [Act.put, List.setIfInBounds_toArray, List.set_cons_zero, List.set_cons_succ]
  refine wpAnyT_begin [20] (by kernel_rfl) (by kernel_rfl) ?_
  refine wpAnyT_take (oi := ⟨some 47, Op.call { callee := Callee.builtin Builtin.len, args := #[Operand.tmp 46], argTypes := #[28] }, 3, _, _, none⟩) (v := .int .i64 6) rfl (fun _ _ _ h => h) (by rfl) (by assumption) (fun wS hSw => ?_) ?_
  · clear hSw; go_simp
  simp only [Act.put, List.setIfInBounds_toArray, List.set_cons_zero, List.set_cons_succ]
  refine wpAnyT_end ?_
  refine wpAnyH_done (by kernel_rfl) ?_ _
  refine NoPanic.normal ?_
  have CW := C.alloc (.cells #[.string ⟨M.toArray⟩, .string ⟨(chg at' c M).toArray⟩, .string ⟨r.toArray⟩, .string ⟨(M.take kk).toArray⟩, .string ⟨(dig (marked m' k')).toArray⟩, .string ⟨(dig (marked r m')).toArray⟩] 9)
  have RW := Row.made w5 [M, chg at' c M, r, M.take kk, dig (marked m' k'), dig (marked r m')] (C := #[.string ⟨M.toArray⟩, .string ⟨(chg at' c M).toArray⟩, .string ⟨r.toArray⟩, .string ⟨(M.take kk).toArray⟩, .string ⟨(dig (marked m' k')).toArray⟩, .string ⟨(dig (marked r m')).toArray⟩]) (T := 9) (n := 6) rfl rfl (by simp)
  obtain ⟨XS, hXS⟩ : ∃ XS, [M, chg at' c M, r, M.take kk, dig (marked m' k'), dig (marked r m')] = XS := ⟨_, rfl⟩
  have hX6 : XS.length = 6 := by rw [← hXS]; rfl
  rw [hXS] at RW
  generalize w5.alloc _ = W at *
  generalize w5.heap.size = p at *
  obtain ⟨a, cap, hf, hcap, hcap2, hrow⟩ := RW
  injection hf with e1 e2 e3
  clear e2 hcap hcap2 e3 cap hXS hHeld C HM
  have hcell : ∀ i u, (strs XS)[i]? = some u → W.cell? ⟨p, i, none⟩ = some u := by
    intro i u hu
    rcases hrow with h0 | ⟨b, o, h1, h2⟩
    · rw [h0] at hu; simp at hu
    · rw [← e1] at h1
      injection h1 with h1
      injection h1 with h3 h4
      subst h3 h4
      have := h2 i u hu
      rwa [Nat.zero_add] at this
  clear hrow e1 a
  have HX6 := Lib.hid hX6
  have HC := Lib.hid hcell
  have g0 : Grows W W := Below.refl _ _
  have gW := CW.g
  clear hX6 hcell CW hm hx2 b1 b2 hlt hq hMne hM9 hk0 hm0 hs0
  go_wp2_with fail
  go_loopw [48] (fun i wr => ∃ j : Nat, j ≤ 6 ∧ i = .int .i64 j ∧ Grows W wr) (fun i _ => 6 - (RowKit.intOf i).toNat)
  case atStart => exact ⟨0, Nat.zero_le _, rfl, g0⟩
  case round =>
    clear g0
    obtain ⟨j, hj, rfl, g⟩ := hrel
    by_cases hlt : j < 6
    · have hltX : j < XS.length := by rw [HX6.out]; exact hlt
      have hc0 := HC.out j (str XS[j]) (by unfold strs; rw [List.getElem?_map, List.getElem?_eq_getElem hltX]; rfl)
      have hc1 : wr.cell? ⟨p, j, none⟩ = some (str XS[j]) := (g.cell (World.block_lt_of_cell? W _ hc0)).trans hc0
      clear hc0
      generalize XS[j] = x at *
      unfold str at hc1
      have K1 := Lib.hid (fun W => check_any k' m' x W Hk.out Hm.out)
      have K2 := Lib.hid (fun W => rcheck_any k' m' x W Hk.out Hm.out)
      generalize chk k' m' x = r0 at *
      go_wp2_with fail
      refine (K1.out _).mono ?_; rintro e w6 ⟨rfl, g6⟩; have g := g.then g6; clear g6 hc1; go_wp2_with fail
      refine (K2.out _).mono ?_; rintro e w7 ⟨rfl, g6⟩; have g := g.then g6; clear g6; go_wp2_with fail
      go_roundw
      case rel => exact ⟨j + 1, by omega, by go_num, g⟩
      case measure => simp [RowKit.intOf]; omega
    · obtain rfl : j = 6 := by omega
      have gw := gW.then g
      go_wp2_with fail
      refine (HMM.out _).mono ?_; rintro e w6 ⟨rfl, g6⟩; have gw := gw.then g6; clear g6; go_wp2_with fail
      go_ret
      exact ⟨rfl, gw⟩
end Go.Proofs.Ytmgkbkpfhpkbcaa
