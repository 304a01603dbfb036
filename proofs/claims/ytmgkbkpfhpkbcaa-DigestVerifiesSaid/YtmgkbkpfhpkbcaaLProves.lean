/- The law DigestProves: its walk. -/
import Derived.Test.YtmgkbkpfhpkbcaaLTrees
import Derived.Test.YtmgkbkpfhpkbcaaLMarks
namespace Go.Proofs.Ytmgkbkpfhpkbcaa
open Go.RowKit Go.Lib

attribute [local go_sem] str

/-- A slice that isn't empty lies somewhere. -/
theorem Row.lies {w : World} {a : Option Addr} {n cap : Nat} {xs : List Value} (h : Row w (.slice a n cap) xs) (hx : xs ≠ []) :
    ∃ b o, a = some ⟨b, o, none⟩ ∧ n = xs.length ∧ b < w.heap.size ∧ ∀ i u, xs[i]? = some u → w.cell? ⟨b, o + i, none⟩ = some u := by
  obtain ⟨a', cap', h1, h2, h3, h4⟩ := h
  injection h1 with e1 e2 e3
  subst e1 e2 e3
  rcases h4 with h4 | ⟨b, o, h5, h6⟩
  · exact absurd h4 hx
  · obtain ⟨x, r, rfl⟩ := List.exists_cons_of_ne_nil hx
    exact ⟨b, o, h5, rfl, World.block_lt_of_cell? w _ (h6 0 x rfl), h6⟩

/-- Two small numbers and an Other, in blocks of their own. -/
structure WC (w : World) (b0 b1 : Nat) (s : List UInt8) (at' c : Nat) (W : World) : Prop where
  w0 : W.cell? ⟨w.heap.size, 0, none⟩ = some (.int .u8 (b0 : Int))
  w1 : W.cell? ⟨w.heap.size, 1, none⟩ = some (.int .u8 (b1 : Int))
  c0 : W.cell? ⟨w.heap.size + 1, 0, none⟩ = some (.string ⟨s.toArray⟩)
  c1 : W.cell? ⟨w.heap.size + 1, 1, none⟩ = some (.int .u8 (at' : Int))
  c2 : W.cell? ⟨w.heap.size + 1, 2, none⟩ = some (.int .u8 (c : Int))
  g : Grows w W
theorem WC.later {w W W' : World} {b0 b1 : Nat} {s : List UInt8} {at' c : Nat} (h : WC w b0 b1 s at' c W) (g : Grows W W') : WC w b0 b1 s at' c W' :=
  ⟨(g.cell (World.block_lt_of_cell? W _ h.w0)).trans h.w0, (g.cell (World.block_lt_of_cell? W _ h.w1)).trans h.w1, (g.cell (World.block_lt_of_cell? W _ h.c0)).trans h.c0, (g.cell (World.block_lt_of_cell? W _ h.c1)).trans h.c1, (g.cell (World.block_lt_of_cell? W _ h.c2)).trans h.c2, h.g.then g⟩
theorem WC.alloc {w W : World} {b0 b1 : Nat} {s : List UInt8} {at' c : Nat} (h : WC w b0 b1 s at' c W) (o : Obj) : WC w b0 b1 s at' c (W.alloc o) := h.later ((Below.refl _ _).alloc (Nat.le_refl _) o)
theorem WC.drew {w W : World} {b0 b1 : Nat} {s : List UInt8} {at' c : Nat} (h : WC w b0 b1 s at' c W) : WC w b0 b1 s at' c W.drew := h.later (Below.refl _ _).drew
theorem WC.start (w : World) (b0 b1 : Nat) (s : List UInt8) (at' c : Nat) : WC w b0 b1 s at' c ((w.alloc (.cells #[.int .u8 (b0 : Int), .int .u8 (b1 : Int)] 41)).alloc (.cells #[.string ⟨s.toArray⟩, .int .u8 (at' : Int), .int .u8 (c : Int)] 27)) := by
  have n := fun i => World.cell?_alloc_new (w.alloc (.cells #[.int .u8 (b0 : Int), .int .u8 (b1 : Int)] 41)) #[.string ⟨s.toArray⟩, .int .u8 (at' : Int), .int .u8 (c : Int)] 27 i
  rw [World.size_alloc] at n
  refine ⟨?_, ?_, by rw [n]; rfl, by rw [n]; rfl, by rw [n]; rfl, ((Below.refl _ _).alloc (Nat.le_refl _) _).alloc (by simp) _⟩
  · rw [World.cell?_alloc_lt _ _ _ (by simp), World.cell?_alloc_new]; rfl
  · rw [World.cell?_alloc_lt _ _ _ (by simp), World.cell?_alloc_new]; rfl

set_option linter.unusedSimpArgs false in
set_option maxRecDepth 100000 in
set_option maxHeartbeats 2000000 in
theorem law_proves (v : Value) (l : List (List UInt8)) (b0 b1 : Nat) (s : List UInt8) (at' c : Nat) (w : World) (hv : Row w v (strs l)) (hl : ∀ s ∈ l, (s.length : Int) ≤ 9223372036854775807) (h0 : b0 < 256) (h1 : b1 < 256) (ha : at' < 256) (hc : c < 256) :
    Calls Try.prog 8 #[v, .agg #[.int .u8 (b0 : Int), .int .u8 (b1 : Int)], .agg #[str s, .int .u8 (at' : Int), .int .u8 (c : Int)]] w fun e w' => e = .returned (.bool true) ∧ Grows w w' := by
  have hV := Lib.hid hv
  have hL := Lib.hid hl
  clear hv hl
  have C0 := WC.start w b0 b1 s at' c
  go_enter Try.func8, Try.ntmps8
  go_wp2_with fail
  refine (sane _).mono ?_; rintro e w1 ⟨rfl, g1⟩
  have C1 := C0.later g1
  clear C0 g1
  go_wp2_with fail
  refine (list_any v l _ (hV.out.later C1.g) hL.out).mono ?_; rintro e w2 ⟨v2, rfl, r2, g2⟩
  have C2 := C1.later g2
  clear C1 g2 hV hL
  have h20 := listOf_len l
  have hS := listOf_str l
  have HS := Lib.hid (show ∀ s ∈ listOf l, s.length ≤ 1000 from fun s hs => Nat.le_trans (hS s hs) (by decide))
  have HS30 := Lib.hid hS
  clear hS
  generalize listOf l = L at *
  have hform : ∃ a cap, v2 = .slice a L.length cap := by
    obtain ⟨a, cap, h, _⟩ := r2
    exact ⟨a, cap, by rw [h, strs_length]⟩
  obtain ⟨a2, cap2, rfl⟩ := hform
  have H32 := Lib.hid (show L.length ≤ 32 by omega)
  by_cases hn : L.length = 0
  · have hnn : ((L.length : Int) == 0) = true := by simp [hn]
    have g := C2.g
    clear hn C2 r2
    go_wp2_with fail
    go_ret
    exact ⟨rfl, g⟩
  · have hnn : ((L.length : Int) == 0) = false := by rw [beq_eq_false_iff_ne]; omega
    have hnn2 : ¬ (L.length : Int) = 0 := by omega
    have hnn3 : ¬ L = [] := fun e => hn (by rw [e]; rfl)
    have hpos : 0 < L.length := by omega
    have hne : strs L ≠ [] := fun e => by have := congrArg List.length e; rw [strs_length, List.length_nil] at this; omega
    obtain ⟨p, o, rfl, -, hpl, hcell⟩ := r2.lies hne
    have HC := Lib.hid hcell
    clear hne hcell hn
    have hm0 : ((b0 : Int)).tmod (L.length : Int) = ((b0 % L.length : Nat) : Int) := by rw [Int.tmod_eq_emod_of_nonneg (by omega)]; rfl
    have hm1 : ((b1 : Int)).tmod 32 = ((b1 % 32 : Nat) : Int) := by rw [Int.tmod_eq_emod_of_nonneg (by omega)]; rfl
    have hi : b0 % L.length < L.length := Nat.mod_lt _ hpos
    have hk : b1 % 32 < 32 := Nat.mod_lt _ (by decide)
    generalize b0 % L.length = i at *
    generalize b1 % 32 = k at *
    have hw1 : IntKind.i64.wrap (b0 : Int) = (b0 : Int) := IntWalk.i64_in _ (by omega)
    have hw2 : IntKind.i64.wrap (b1 : Int) = (b1 : Int) := IntWalk.i64_in _ (by omega)
    have C := C2
    obtain ⟨cw0, cw1, -⟩ := C2
    go_wp2_with fail
    go_region_held3 (fun w' => w'.cell? ⟨w.heap.size, 0, none⟩ = some (.int .u8 (b0 : Int)) ∧ w'.cell? ⟨w.heap.size, 1, none⟩ = some (.int .u8 (b1 : Int))) (go_keep) (fail)
    have C := C.drew
    have r3 := r2.later (Below.refl _ w2).drew
    have hxx : w2.drew.cell? ⟨p, o + i, none⟩ = some (str L[i]) := by
      rw [World.cell?_drew]
      exact HC.out i (str L[i]) (by unfold strs; rw [List.getElem?_map, List.getElem?_eq_getElem hi]; rfl)
    have hV := proves L (H32.out) i hi
    have hx30 := HS30.out L[i] (List.getElem_mem hi)
    have K1 := Lib.hid (fun W h => root_any (.slice (some ⟨p, o, none⟩) L.length cap2) L W h HS.out H32.out)
    have K2 := Lib.hid (fun W h => prove_yes (.slice (some ⟨p, o, none⟩) L.length cap2) L i W h HS.out H32.out hi)
    generalize w2.drew = W at *
    have hi2 : (i : Int) < (L.length : Int) := by omega
    have hi1 : (0 : Int) ≤ (i : Int) := by omega
    have hF : fit i (prv L i) = true := by
      have h := of_decide_eq_true hV
      exact decide_eq_true ⟨h.1, h.2.1, h.2.2.1, h.2.2.2.1⟩
    generalize L[i] = x at *
    generalize rootL L = R at *
    generalize prv L i = P at *
    have HV := Lib.hid hV
    have HF := Lib.hid hF
    have hx : W.cell? ⟨p, o + i, none⟩ = some (.string ⟨x.toArray⟩) := hxx
    have Hx := Lib.hid (show x.length ≤ 100000 by omega)
    have HR3 := Lib.hid r3
    clear hV hF hxx hx30 cw0 cw1 r2 HC hnn hnn2 hnn3 hm0 hm1 hw1 hw2 hpl h0 h1 r3
    go_wp2_with fail
    refine (K1.out _ HR3.out).mono ?_; rintro e w4 ⟨rfl, g4⟩
    have C := C.later g4
    have HR4 := Lib.hid (HR3.out.later g4)
    have hx := (g4.cell (World.block_lt_of_cell? _ _ hx)).trans hx
    clear g4 HR3
    go_wp2_with fail
    refine (K2.out _ HR4.out).mono ?_; rintro e w5 ⟨v5, rfl, rP, g4⟩
    have C := C.later g4
    have hx := (g4.cell (World.block_lt_of_cell? _ _ hx)).trans hx
    clear g4 HR4
    go_wp2_with fail
    refine (vfy_any R x i v5 P _ Hx.out rP).mono ?_; rintro e w6 ⟨rfl, g4⟩
    have C := C.later g4
    have hx := (g4.cell (World.block_lt_of_cell? _ _ hx)).trans hx
    have rP := rP.later g4
    clear g4
    rw [HV.out]
    go_wp2_with fail
    refine wp_region_noPanic ?_
    refine wp_region_held_drew (S := fun W => WC w b0 b1 s at' c W ∧ W.cell? ⟨p, o + i, none⟩ = some (.string ⟨x.toArray⟩)) (by kernel_rfl) ⟨C.drew, by rw [World.cell?_drew]; exact hx⟩ (fun hHeld => ?_)
    refine wpAnyT_begin [0, 1, 2, 3, 4] (by kernel_rfl) (by kernel_rfl) ?_
    refine wpAnyT_take (oi := ⟨some 54, Op.load 27 (Operand.tmp 5), 27, _, _, none⟩) (v := .agg #[.string ⟨s.toArray⟩, .int .u8 (at' : Int), .int .u8 (c : Int)]) rfl (fun _ _ _ h => h) (by rfl) (by assumption) (fun wS hSw => ?_) ?_
    · obtain ⟨⟨-, -, c0, c1, c2, -⟩, -⟩ := hSw; go_simp
    simp only [Act.put, List.setIfInBounds_toArray, List.set_cons_zero, List.set_cons_succ]
    refine wpAnyT_take (oi := ⟨some 55, Op.move (Operand.tmp 0), 28, _, _, none⟩) (v := .slice (some ⟨p, o, none⟩) L.length cap2) rfl (fun _ _ _ h => h) (by rfl) (by assumption) (fun wS hSw => ?_) ?_
    · clear hSw; go_simp
    simp only [Act.put, List.setIfInBounds_toArray, List.set_cons_zero, List.set_cons_succ]
    refine wpAnyT_take (oi := ⟨some 56, Op.move (Operand.tmp 8), 3, _, _, none⟩) (v := .int .i64 (i : Int)) rfl (fun _ _ _ h => h) (by rfl) (by assumption) (fun wS hSw => ?_) ?_
    · clear hSw; go_simp
    simp only [Act.put, List.setIfInBounds_toArray, List.set_cons_zero, List.set_cons_succ]
    refine wpAnyT_take (oi := ⟨some 57, Op.indexAddr 28 (Operand.tmp 55) (Operand.tmp 56), 0, _, _, none⟩) (v := .pointer (some ⟨p, o + i, none⟩)) rfl (fun _ _ _ h => h) (by rfl) (by assumption) (fun wS hSw => ?_) ?_
    · clear hSw; go_simp
    simp only [Act.put, List.setIfInBounds_toArray, List.set_cons_zero, List.set_cons_succ]
    refine wpAnyT_take (oi := ⟨some 58, Op.load 9 (Operand.tmp 57), 9, _, _, none⟩) (v := .string ⟨x.toArray⟩) rfl (fun _ _ _ h => h) (by rfl) (by assumption) (fun wS hSw => ?_) ?_
    · obtain ⟨-, cx⟩ := hSw; go_simp
    simp only [Act.put, List.setIfInBounds_toArray, List.set_cons_zero, List.set_cons_succ]
    refine wpAnyT_end ?_
    refine wpAnyH_listed #[true, true, true, true, true, false, false] (by kernel_rfl) ?_
    refine wpAnyH_ready (rs := [5]) (by kernel_rfl) (by simp) ?_
    refine AllReadyH.cons (o := ⟨some 59, Op.call { callee := Callee.value (Operand.func 17), args := #[Operand.tmp 54, Operand.tmp 58], argTypes := #[27, 9] }, 9, _, _, none⟩) rfl (fun K hK => ?_) AllReadyH.nil
    go_simp
    go_at_call 17
    refine (change_any _ at' c x _ Hx.out ha hc).mono ?_
    rintro e w7 ⟨rfl, g7⟩
    have C := C.drew.later g7
    have hxd : w6.drew.cell? ⟨p, o + i, none⟩ = some (.string ⟨x.toArray⟩) := by rw [World.cell?_drew]; exact hx
    have hx := (g7.cell (World.block_lt_of_cell? _ _ hxd)).trans hxd
    clear hxd
    have rP := rP.later (Grows.then (Below.refl _ _).drew g7)
    clear g7
    go_wp2_with fail
    clear hHeld
    refine hK.out _ _ (⟨C, hx⟩) (fun hHeld => ?_)
    clear hK K
    try simp only [Act.put, List.setIfInBounds_toArray, List.set_cons_zero, List.set_cons_succ]
    refine wpAnyT_begin [6] (by kernel_rfl) (by kernel_rfl) ?_
    refine wpAnyT_take (oi := ⟨some 13, Op.assign (Operand.tmp 59), 9, _, _, none⟩) (v := .string ⟨(chg at' c x).toArray⟩) rfl (fun _ _ _ h => h) (by rfl) (by assumption) (fun wS hSw => ?_) ?_
    · clear hSw; go_simp
    simp only [Act.put, List.setIfInBounds_toArray, List.set_cons_zero, List.set_cons_succ]
    refine wpAnyT_end ?_
    refine wpAnyH_done (by kernel_rfl) ?_ _
    refine NoPanic.normal ?_
    have G := C.g
    have hy : (chg at' c x).length ≤ 100000 := by unfold chg; rw [List.length_set]; exact Hx.out
    have Hy := Lib.hid hy
    have hki0 : (0 : Int) ≤ (k : Int) := by omega
    clear hy C hHeld
    generalize chg at' c x = y at *
    go_wp2_with fail
    refine (rleaf_any y _ Hy.out).mono ?_; rintro e w8 ⟨rfl, g4⟩
    have G := G.then g4
    have hx := (g4.cell (World.block_lt_of_cell? _ _ hx)).trans hx
    have rP := rP.later g4
    clear g4
    go_wp2_with fail
    refine (rup_any (dig (3 :: y)) i v5 P _ (dig_length _) rP).mono ?_; rintro e w9 ⟨rfl, g4⟩
    have G := G.then g4
    have hx := (g4.cell (World.block_lt_of_cell? _ _ hx)).trans hx
    have rP := rP.later g4
    clear g4
    rw [rupV_yes HF.out]
    have HE0 := Lib.hid (ver_yes (root := R) (lf := y) HF.out)
    have e0 : dig (3 :: y) = leaf y := rfl
    rw [e0]
    clear e0
    rw [Int.toNat_natCast] at HE0 ⊢
    generalize upOf (leaf y) i P = D at *
    by_cases hyx : y = x
    · have q3 : (y == x) = true := by simpa using hyx
      have q4 : (y != x) = false := by simpa using hyx
      clear hyx
      go_wp2_with fail
      refine (rleaf_any x _ Hx.out).mono ?_; rintro e w10 ⟨rfl, g4⟩
      have G := G.then g4
      have hx := (g4.cell (World.block_lt_of_cell? _ _ hx)).trans hx
      have rP := rP.later g4
      clear g4
      go_wp2_with fail
      refine (rup_any (dig (3 :: x)) k v5 P _ (dig_length _) rP).mono ?_; rintro e w11 ⟨rfl, g4⟩
      have G := G.then g4
      have hx := (g4.cell (World.block_lt_of_cell? _ _ hx)).trans hx
      have rP := rP.later g4
      clear g4
      by_cases hki : k = i
      · have q1 : ((k : Int) == (i : Int)) = true := by simp [hki]
        clear hki
        cases hfk : fit k P with
        | true =>
          rw [rupV_yes hfk]
          clear hfk
          go_wp2_with fail
          go_ret
          exact ⟨rfl, G⟩
        | false =>
          rw [rupV_no hfk]
          clear hfk
          go_wp2_with fail
          go_ret
          exact ⟨rfl, G⟩
      · have q1 : ((k : Int) == (i : Int)) = false := by rw [beq_eq_false_iff_ne]; omega
        clear hki
        cases hfk : fit k P with
        | true =>
          rw [rupV_yes hfk]
          have HE := Lib.hid (ver_yes (root := R) (lf := x) hfk)
          have e0 : dig (3 :: x) = leaf x := rfl
          rw [e0]
          clear hfk e0
          rw [Int.toNat_natCast] at HE ⊢
          generalize upOf (leaf x) k P = E at *
          by_cases hE : E = R
          · have q2 : (E == R) = true := by simpa using hE
            clear hE
            go_wp2_with fail
            go_ret
            exact ⟨rfl, G⟩
          · have q2 : (E == R) = false := by simpa using hE
            have HF2 := Lib.hid (HE.out.trans (decide_eq_false hE))
            clear hE
            go_wp2_with fail
            refine (vfy_any R x k v5 P _ Hx.out rP).mono ?_; rintro e w12 ⟨rfl, g4⟩
            have G := G.then g4
            rw [HF2.out]
            clear g4
            go_wp2_with fail
            go_ret
            exact ⟨rfl, G⟩
        | false =>
          rw [rupV_no hfk]
          have HF2 := Lib.hid (ver_no (root := R) (lf := x) hfk)
          clear hfk
          go_wp2_with fail
          refine (vfy_any R x k v5 P _ Hx.out rP).mono ?_; rintro e w12 ⟨rfl, g4⟩
          have G := G.then g4
          rw [HF2.out]
          clear g4
          go_wp2_with fail
          go_ret
          exact ⟨rfl, G⟩
    · have q3 : (y == x) = false := by simpa using hyx
      have q4 : (y != x) = true := by simpa using hyx
      clear hyx
      by_cases hD : D = R
      · have q5 : (D == R) = true := by simpa using hD
        have q6 : (D != R) = false := by simpa using hD
        clear hD
        go_wp2_with fail
        refine (rleaf_any x _ Hx.out).mono ?_; rintro e w10 ⟨rfl, g4⟩
        have G := G.then g4
        have hx := (g4.cell (World.block_lt_of_cell? _ _ hx)).trans hx
        have rP := rP.later g4
        clear g4
        go_wp2_with fail
        refine (rup_any (dig (3 :: x)) k v5 P _ (dig_length _) rP).mono ?_; rintro e w11 ⟨rfl, g4⟩
        have G := G.then g4
        have hx := (g4.cell (World.block_lt_of_cell? _ _ hx)).trans hx
        have rP := rP.later g4
        clear g4
        by_cases hki : k = i
        · have q1 : ((k : Int) == (i : Int)) = true := by simp [hki]
          clear hki
          cases hfk : fit k P with
          | true =>
            rw [rupV_yes hfk]
            clear hfk
            go_wp2_with fail
            go_ret
            exact ⟨rfl, G⟩
          | false =>
            rw [rupV_no hfk]
            clear hfk
            go_wp2_with fail
            go_ret
            exact ⟨rfl, G⟩
        · have q1 : ((k : Int) == (i : Int)) = false := by rw [beq_eq_false_iff_ne]; omega
          clear hki
          cases hfk : fit k P with
          | true =>
            rw [rupV_yes hfk]
            have HE := Lib.hid (ver_yes (root := R) (lf := x) hfk)
            have e0 : dig (3 :: x) = leaf x := rfl
            rw [e0]
            clear hfk e0
            rw [Int.toNat_natCast] at HE ⊢
            generalize upOf (leaf x) k P = E at *
            by_cases hE : E = R
            · have q2 : (E == R) = true := by simpa using hE
              clear hE
              go_wp2_with fail
              go_ret
              exact ⟨rfl, G⟩
            · have q2 : (E == R) = false := by simpa using hE
              have HF2 := Lib.hid (HE.out.trans (decide_eq_false hE))
              clear hE
              go_wp2_with fail
              refine (vfy_any R x k v5 P _ Hx.out rP).mono ?_; rintro e w12 ⟨rfl, g4⟩
              have G := G.then g4
              rw [HF2.out]
              clear g4
              go_wp2_with fail
              go_ret
              exact ⟨rfl, G⟩
          | false =>
            rw [rupV_no hfk]
            have HF2 := Lib.hid (ver_no (root := R) (lf := x) hfk)
            clear hfk
            go_wp2_with fail
            refine (vfy_any R x k v5 P _ Hx.out rP).mono ?_; rintro e w12 ⟨rfl, g4⟩
            have G := G.then g4
            rw [HF2.out]
            clear g4
            go_wp2_with fail
            go_ret
            exact ⟨rfl, G⟩
      · have q5 : (D == R) = false := by simpa using hD
        have q6 : (D != R) = true := by simpa using hD
        have HF3 := Lib.hid (HE0.out.trans (decide_eq_false hD))
        clear hD
        go_wp2_with fail
        refine (vfy_any R y i v5 P _ Hy.out rP).mono ?_; rintro e w13 ⟨rfl, g4⟩
        have G := G.then g4
        have hx := (g4.cell (World.block_lt_of_cell? _ _ hx)).trans hx
        have rP := rP.later g4
        rw [HF3.out]
        clear g4
        go_wp2_with fail
        refine (rleaf_any x _ Hx.out).mono ?_; rintro e w10 ⟨rfl, g4⟩
        have G := G.then g4
        have hx := (g4.cell (World.block_lt_of_cell? _ _ hx)).trans hx
        have rP := rP.later g4
        clear g4
        go_wp2_with fail
        refine (rup_any (dig (3 :: x)) k v5 P _ (dig_length _) rP).mono ?_; rintro e w11 ⟨rfl, g4⟩
        have G := G.then g4
        have hx := (g4.cell (World.block_lt_of_cell? _ _ hx)).trans hx
        have rP := rP.later g4
        clear g4
        by_cases hki : k = i
        · have q1 : ((k : Int) == (i : Int)) = true := by simp [hki]
          clear hki
          cases hfk : fit k P with
          | true =>
            rw [rupV_yes hfk]
            clear hfk
            go_wp2_with fail
            go_ret
            exact ⟨rfl, G⟩
          | false =>
            rw [rupV_no hfk]
            clear hfk
            go_wp2_with fail
            go_ret
            exact ⟨rfl, G⟩
        · have q1 : ((k : Int) == (i : Int)) = false := by rw [beq_eq_false_iff_ne]; omega
          clear hki
          cases hfk : fit k P with
          | true =>
            rw [rupV_yes hfk]
            have HE := Lib.hid (ver_yes (root := R) (lf := x) hfk)
            have e0 : dig (3 :: x) = leaf x := rfl
            rw [e0]
            clear hfk e0
            rw [Int.toNat_natCast] at HE ⊢
            generalize upOf (leaf x) k P = E at *
            by_cases hE : E = R
            · have q2 : (E == R) = true := by simpa using hE
              clear hE
              go_wp2_with fail
              go_ret
              exact ⟨rfl, G⟩
            · have q2 : (E == R) = false := by simpa using hE
              have HF2 := Lib.hid (HE.out.trans (decide_eq_false hE))
              clear hE
              go_wp2_with fail
              refine (vfy_any R x k v5 P _ Hx.out rP).mono ?_; rintro e w12 ⟨rfl, g4⟩
              have G := G.then g4
              rw [HF2.out]
              clear g4
              go_wp2_with fail
              go_ret
              exact ⟨rfl, G⟩
          | false =>
            rw [rupV_no hfk]
            have HF2 := Lib.hid (ver_no (root := R) (lf := x) hfk)
            clear hfk
            go_wp2_with fail
            refine (vfy_any R x k v5 P _ Hx.out rP).mono ?_; rintro e w12 ⟨rfl, g4⟩
            have G := G.then g4
            rw [HF2.out]
            clear g4
            go_wp2_with fail
            go_ret
            exact ⟨rfl, G⟩
end Go.Proofs.Ytmgkbkpfhpkbcaa
