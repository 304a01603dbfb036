/- The law DigestVerifies: its walk. -/
import Derived.Test.YtmgkbkpfhpkbcaaAppR
namespace Go.Proofs.Ytmgkbkpfhpkbcaa
open Go.RowKit Go.Lib

attribute [local go_sem] str

/-- Two small numbers, an Other and a Proof, in blocks of their own. -/
structure VX (w : World) (b0 b1 : Nat) (s : List UInt8) (at' c : Nat) (vr : Value) (z : Int) (W : World) : Prop where
  w0 : W.cell? ⟨w.heap.size, 0, none⟩ = some (.int .u8 (b0 : Int))
  w1 : W.cell? ⟨w.heap.size, 1, none⟩ = some (.int .u8 (b1 : Int))
  c0 : W.cell? ⟨w.heap.size + 1, 0, none⟩ = some (.string ⟨s.toArray⟩)
  c1 : W.cell? ⟨w.heap.size + 1, 1, none⟩ = some (.int .u8 (at' : Int))
  c2 : W.cell? ⟨w.heap.size + 1, 2, none⟩ = some (.int .u8 (c : Int))
  r0 : W.cell? ⟨w.heap.size + 1 + 1, 0, none⟩ = some vr
  r1 : W.cell? ⟨w.heap.size + 1 + 1, 1, none⟩ = some (.int .i64 z)
  g : Grows w W
section
variable {w W W' : World} {b0 b1 : Nat} {s : List UInt8} {at' c : Nat} {vr : Value} {z : Int}
theorem VX.later (h : VX w b0 b1 s at' c vr z W) (g : Grows W W') : VX w b0 b1 s at' c vr z W' :=
  ⟨(g.cell (World.block_lt_of_cell? W _ h.w0)).trans h.w0, (g.cell (World.block_lt_of_cell? W _ h.w1)).trans h.w1, (g.cell (World.block_lt_of_cell? W _ h.c0)).trans h.c0, (g.cell (World.block_lt_of_cell? W _ h.c1)).trans h.c1, (g.cell (World.block_lt_of_cell? W _ h.c2)).trans h.c2,
    (g.cell (World.block_lt_of_cell? W _ h.r0)).trans h.r0, (g.cell (World.block_lt_of_cell? W _ h.r1)).trans h.r1, h.g.then g⟩
theorem VX.alloc (h : VX w b0 b1 s at' c vr z W) (o : Obj) : VX w b0 b1 s at' c vr z (W.alloc o) := h.later ((Below.refl _ _).alloc (Nat.le_refl _) o)
theorem VX.drew (h : VX w b0 b1 s at' c vr z W) : VX w b0 b1 s at' c vr z W.drew := h.later (Below.refl _ _).drew
theorem VX.start (w : World) (b0 b1 : Nat) (s : List UInt8) (at' c : Nat) (vr : Value) (z : Int) : VX w b0 b1 s at' c vr z
    (((w.alloc (.cells #[.int .u8 (b0 : Int), .int .u8 (b1 : Int)] 41)).alloc (.cells #[.string ⟨s.toArray⟩, .int .u8 (at' : Int), .int .u8 (c : Int)] 27)).alloc (.cells #[vr, .int .i64 z] 43)) := by
  have C := WC.start w b0 b1 s at' c
  have n := fun i => World.cell?_alloc_new ((w.alloc (.cells #[.int .u8 (b0 : Int), .int .u8 (b1 : Int)] 41)).alloc (.cells #[.string ⟨s.toArray⟩, .int .u8 (at' : Int), .int .u8 (c : Int)] 27)) #[vr, .int .i64 z] 43 i
  rw [World.size_alloc, World.size_alloc] at n
  have C2 := C.alloc (.cells #[vr, .int .i64 z] 43)
  exact ⟨C2.w0, C2.w1, C2.c0, C2.c1, C2.c2, by rw [n]; rfl, by rw [n]; rfl, C2.g⟩
end
theorem Row.drew {w : World} {v : Value} {xs : List Value} (h : Row w v xs) : Row w.drew v xs := h.later (Below.refl _ _).drew

theorem Row.cutTake {w : World} {a : Option Addr} {n cap k : Nat} {xs : List Value} (h : Row w (.slice a n cap) xs) (hk : k ≤ n) : Row w (.slice a k cap) (xs.take k) := by
  obtain ⟨a', cap', h1, h2, h3, h4⟩ := h
  injection h1 with e1 e2 e3
  subst e1 e2 e3
  have hl : (xs.take k).length = k := List.length_take_of_le hk
  refine ⟨_, _, by rw [hl], by omega, h3, ?_⟩
  rcases h4 with h4 | ⟨b, o, h5, h6⟩
  · left; rw [h4]; simp
  · right
    refine ⟨b, o, h5, fun i u hu => h6 i u ?_⟩
    rw [List.getElem?_take] at hu
    split at hu
    · exact hu
    · cases hu
theorem strs_take (l : List (List UInt8)) (k : Nat) : (strs l).take k = strs (l.take k) := by unfold strs; rw [List.map_take]

set_option linter.unusedSimpArgs false in
set_option maxRecDepth 100000 in
set_option maxHeartbeats 4000000 in
theorem law_verifies (v : Value) (l : List (List UInt8)) (b0 b1 : Nat) (s : List UInt8) (at' c : Nat) (vr : Value) (lr : List (List UInt8)) (z : Int) (w : World)
    (hv : Row w v (strs l)) (hl : ∀ s ∈ l, (s.length : Int) ≤ 9223372036854775807) (hvr : Row w vr (strs lr)) (hlr : ∀ s ∈ lr, (s.length : Int) ≤ 9223372036854775807) (hs : (s.length : Int) ≤ 9223372036854775807) (h0 : b0 < 256) (h1 : b1 < 256) (ha : at' < 256) (hc : c < 256) :
    Calls Try.prog 7 #[v, .agg #[.int .u8 (b0 : Int), .int .u8 (b1 : Int)], .agg #[str s, .int .u8 (at' : Int), .int .u8 (c : Int)], .agg #[vr, .int .i64 z]] w fun e w' => e = .returned (.bool true) ∧ Grows w w' := by
  have hV := Lib.hid hv
  have hL := Lib.hid hl
  have hVR := Lib.hid hvr
  have hLR := Lib.hid hlr
  have hrform : ∃ a cap, vr = .slice a lr.length cap := by
    obtain ⟨a, cap, h, _⟩ := hvr
    exact ⟨a, cap, by rw [h, strs_length]⟩
  clear hv hl hvr hlr
  obtain ⟨ar, capr, rfl⟩ := hrform
  have C := VX.start w b0 b1 s at' c (.slice ar lr.length capr) z
  go_enter Try.func7, Try.ntmps7
  go_wp2_with fail
  refine (sane _).mono ?_; rintro e w1 ⟨rfl, g1⟩
  have C := C.later g1
  clear g1
  go_wp2_with fail
  refine (list_any v l _ (hV.out.later C.g) hL.out).mono ?_; rintro e w2 ⟨v2, rfl, r2, g2⟩
  have C := C.later g2
  clear g2 hV hL
  have h20 := listOf_len l
  have hS := listOf_str l
  have HS := Lib.hid (show ∀ s ∈ listOf l, s.length ≤ 1000 from fun s hs => Nat.le_trans (hS s hs) (by decide))
  have HS30 := Lib.hid hS
  clear hS
  generalize listOf l = L at *
  have hform : ∃ a cap, v2 = .slice a L.length cap := by
    obtain ⟨a, cap, h, _⟩ := r2
    exact ⟨a, cap, by rw [h, strs_length]⟩
  obtain ⟨a2, cap2, rfl⟩ := hform
  have H32 := Lib.hid (show L.length ≤ 32 by omega)
  have HR := Lib.hid r2.drew
  clear r2
  have hm0 : ((b0 : Int)).tmod 40 = ((b0 % 40 : Nat) : Int) := by rw [Int.tmod_eq_emod_of_nonneg (by omega)]; rfl
  have hm1 : ((b1 : Int)).tmod 40 = ((b1 % 40 : Nat) : Int) := by rw [Int.tmod_eq_emod_of_nonneg (by omega)]; rfl
  have hi : b0 % 40 < 40 := Nat.mod_lt _ (by decide)
  have hk : b1 % 40 < 40 := Nat.mod_lt _ (by decide)
  generalize b0 % 40 = i at *
  generalize b1 % 40 = k at *
  have hw1 : IntKind.i64.wrap (b0 : Int) = (b0 : Int) := IntWalk.i64_in _ (by omega)
  have hw2 : IntKind.i64.wrap (b1 : Int) = (b1 : Int) := IntWalk.i64_in _ (by omega)
  have cw0 := C.w0
  have cw1 := C.w1
  go_wp2_with fail
  go_region_held3 (fun w' => w'.cell? ⟨w.heap.size, 0, none⟩ = some (.int .u8 (b0 : Int)) ∧ w'.cell? ⟨w.heap.size, 1, none⟩ = some (.int .u8 (b1 : Int))) (go_keep) (fail)
  have C := C.drew
  clear cw0 cw1 hw1 hw2 hm0 hm1 h0 h1
  generalize w2.drew = W at *
  have K1 := Lib.hid (fun x W h => rprove_any (.slice a2 L.length cap2) L x W h HS.out H32.out)
  have K2 := Lib.hid (fun W h => rroot_any (.slice a2 L.length cap2) L W h HS.out H32.out)
  obtain ⟨ix, hix⟩ : ∃ ix : Int, (if (L.length : Int) - 1 < (i : Int) then (L.length : Int) - 1 else (i : Int)) = ix := ⟨_, rfl⟩
  have hx1 : ix < (L.length : Int) := by rw [← hix]; split <;> omega
  have hx2 : -1 ≤ ix := by rw [← hix]; split <;> omega
  have hx3 : 0 < L.length → 0 ≤ ix := by intro h; rw [← hix]; split <;> omega
  have HX3 := Lib.hid hx3
  clear hx3
  go_wp2_with fail
  refine (K1.out ix W HR.out).mono ?_; rintro e w3 ⟨vP, rfl, rP, g3⟩
  have C := C.later g3
  have HR := Lib.hid (HR.out.later g3)
  have hP5 : (prvI L ix).length ≤ 5 := by
    unfold prvI
    split
    · rw [prv_length]; exact lg_le _
    · exact Nat.zero_le _
  clear g3 K1
  have hP8 : ∀ x ∈ prvI L ix, x.length ≤ 1000 := by
    unfold prvI
    split
    · rename_i hxx
      have hxx := of_decide_eq_true hxx
      intro x hx
      rw [prv_all8 L (by omega) ix.toNat (by omega) x hx]; decide
    · intro x hx; cases hx
  have HP8 := Lib.hid hP8
  clear hP8
  generalize isIx L ix = there at *
  generalize prvI L ix = P at *
  go_wp2_with fail
  refine (K2.out _ HR.out).mono ?_; rintro e w4 ⟨rfl, g3⟩
  have C := C.later g3
  have HR := Lib.hid (HR.out.later g3)
  have rP := rP.later g3
  clear g3 K2
  generalize rootL L = R at *
  have hPform : ∃ a cap, vP = .slice a P.length cap ∧ P.length ≤ cap := by
    obtain ⟨a, cap, h, h2, _⟩ := rP
    exact ⟨a, cap, by rw [h, strs_length], by rwa [strs_length] at h2⟩
  obtain ⟨aP, capP, rfl, hcapP⟩ := hPform
  have HP := Lib.hid rP
  clear rP
  go_upto_if 52 with (fail)
  go_cut [15] (fun lf wx => wx = w4 ∧ ∃ x : List UInt8, x.length ≤ 1000 ∧ lf = .string ⟨x.toArray⟩)
  case first =>
    by_cases hn : 0 < L.length
    · have hne : strs L ≠ [] := fun e => by have := congrArg List.length e; rw [strs_length, List.length_nil] at this; omega
      obtain ⟨p, o, rfl, -, hpl, hcell⟩ := HR.out.lies hne
      have hx0 := HX3.out hn
      have hlt : ix.toNat < L.length := by omega
      have hc0 := hcell ix.toNat (str L[ix.toNat]) (by unfold strs; rw [List.getElem?_map, List.getElem?_eq_getElem hlt]; rfl)
      have hx30 := HS.out L[ix.toNat] (List.getElem_mem hlt)
      clear hcell hne
      generalize L[ix.toNat] = x at *
      unfold str at hc0
      go_wp2_with fail
      go_meet
      exact ⟨rfl, x, hx30, rfl⟩
    · have hn0 : L.length = 0 := by omega
      go_wp2_with fail
      go_meet
      exact ⟨rfl, [], by simp, rfl⟩
  case rest =>
    obtain ⟨rfl, lf, hlf, rfl⟩ := hcut
    clear HX3
    have hPlow : (0 : Int) ≤ (P.length : Int) := by omega
    have hkm : ((k : Int)).tmod ((P.length : Int) + 1) = ((k % (P.length + 1) : Nat) : Int) := by rw [Int.tmod_eq_emod_of_nonneg (by omega)]; rfl
    have hkk : k % (P.length + 1) ≤ P.length := by have := Nat.mod_lt k (show 0 < P.length + 1 by omega); omega
    generalize k % (P.length + 1) = kk at *
    have hwP : IntKind.i64.wrap ((P.length : Int) + 1) = (P.length : Int) + 1 := IntWalk.i64_in _ (by omega)
    have hkm2 : (k : Int) % ((P.length : Int) + 1) = (kk : Int) := by rw [← hkm, Int.tmod_eq_emod_of_nonneg (by omega)]
    have hz1 : ¬ ((P.length : Int) + 1 = 0) := by omega
    have hz2 : (((P.length : Int) + 1) == 0) = false := by rw [beq_eq_false_iff_ne]; omega
    go_upto_block 0 with fail
    go_cut [16] (fun vo wx => Grows wc wx ∧ ∃ xs m, m ≤ 100 ∧ wx.ownsRow wc.heap.size 9 1 vo m (strs xs))
    case first =>
      have HPc := Lib.hid (show strs P = [] ∨ ∃ b o, aP = some ⟨b, o, none⟩ ∧ ∀ j u, (strs P)[j]? = some u → wc.cell? ⟨b, o + j, none⟩ = some u by
        obtain ⟨a', cap', h1, -, -, h4⟩ := HP.out
        injection h1 with e1
        subst e1
        exact h4)
      have o0 := World.ownsRow_nil wc wc.heap.size 9 1
      go_wp2_with fail
      go_loopw [16, 63] (fun vo n wr => ∃ (j : Nat) (xs : List (List UInt8)), j ≤ P.length ∧ n = .int .i64 j ∧ wr.ownsRow wc.heap.size 9 1 vo j (strs xs) ∧ Grows wc wr) (fun _ n _ => P.length - (RowKit.intOf n).toNat)
      case atStart => exact ⟨0, [], Nat.zero_le _, rfl, o0, Below.refl _ _⟩
      case round =>
        clear o0
        obtain ⟨j, xs, hj, rfl, oo, g⟩ := hrel
        by_cases hlt : j < P.length
        · rcases HPc.out with h0 | ⟨pp, op, rfl, cp⟩
          · rw [show P = [] from List.map_eq_nil_iff.1 h0] at hlt
            simp at hlt
          · have d1 := cp j (str P[j]) (by unfold strs; rw [List.getElem?_map, List.getElem?_eq_getElem hlt]; rfl)
            have d1 : wr.cell? ⟨pp, op + j, none⟩ = some (str P[j]) := (g.cell (World.block_lt_of_cell? wc _ d1)).trans d1
            have hx8 := HP8.out P[j] (List.getElem_mem hlt)
            have Cr := C.later g
            have c0 := Cr.c0
            have c1 := Cr.c1
            have c2 := Cr.c2
            clear cp
            generalize P[j] = x at *
            unfold str at d1
            by_cases hjk : j = kk
            · have q1 : ((j : Int) == (kk : Int)) = true := by simp [hjk]
              clear hjk
              go_wp2_with fail
              refine (change_any _ at' c x _ (by omega) ha hc).mono ?_; rintro e w6 ⟨rfl, g6⟩
              have g := g.then g6
              have oo := owns_later oo g6
              have hnew := World.cell?_alloc_new w6 #[.string ⟨(chg at' c x).toArray⟩] 9 0
              clear c0 c1 c2 d1 g6
              go_wp2_with (at_builtin; refine app9 rfl _ _ rfl (g.alloc g.size _) rfl (owns_later oo ((Below.refl _ _).alloc (Nat.le_refl _) _)) (chg at' c x) rfl hnew (by omega) ?_; intro v4 w4 o4 b4)
              rw [strs_snoc] at o4
              go_roundw
              case rel => exact ⟨j + 1, _, by omega, by go_num, o4, b4⟩
              case measure => simp [RowKit.intOf]; omega
            · have q1 : ((j : Int) == (kk : Int)) = false := by rw [beq_eq_false_iff_ne]; omega
              clear hjk
              have hnew := World.cell?_alloc_new wr #[.string ⟨x.toArray⟩] 9 0
              go_wp2_with (at_builtin; refine app9 rfl _ _ rfl (g.alloc g.size _) rfl (owns_later oo ((Below.refl _ _).alloc (Nat.le_refl _) _)) x rfl hnew (by omega) ?_; intro v4 w4 o4 b4)
              rw [strs_snoc] at o4
              go_roundw
              case rel => exact ⟨j + 1, _, by omega, by go_num, o4, b4⟩
              case measure => simp [RowKit.intOf]; omega
        · obtain rfl : j = P.length := by omega
          go_wp2_with fail
          go_meet
          exact ⟨g, xs, _, by omega, oo⟩
    case rest =>
      obtain ⟨gA, xsA, mA, hmA, oA⟩ := hcut
      have C := C.later gA
      have HR := Lib.hid (HR.out.later gA)
      have HP := Lib.hid (HP.out.later gA)
      have RA := Lib.hid (Row.of_owns oA)
      clear gA oA
      generalize wc = W6 at *
      go_upto_block 2 with fail
      go_cut [19] (fun vo wx => Grows W6 wx ∧ ∃ xs m, m ≤ 100 ∧ wx.ownsRow W6.heap.size 9 1 vo m (strs xs))
      case first =>
        have o0 := World.ownsRow_nil W6 W6.heap.size 9 1
        have HVc := Lib.hid (show strs lr = [] ∨ ∃ b o, ar = some ⟨b, o, none⟩ ∧ ∀ j u, (strs lr)[j]? = some u → w.cell? ⟨b, o + j, none⟩ = some u by
          obtain ⟨a', cap', h1, -, -, h4⟩ := hVR.out
          injection h1 with e1
          subst e1
          exact h4)
        have hcapr : (lr.length : Int) ≤ 9223372036854775807 := by
          obtain ⟨a', cap', h1, h2, h3, -⟩ := hVR.out
          rw [strs_length] at h2
          omega
        have hb7 : w.heap.size + 1 + 1 < W6.heap.size := World.block_lt_of_cell? W6 _ C.r0
        go_wp2_with fail
        go_loopw [19, 20] (fun vo n wr => ∃ (j : Nat) (xs : List (List UInt8)), j ≤ lr.length ∧ j ≤ 45 ∧ n = .int .i64 j ∧ wr.ownsRow W6.heap.size 9 1 vo j (strs xs) ∧ Grows W6 wr) (fun _ n _ => lr.length - (RowKit.intOf n).toNat)
        case atStart => exact ⟨0, [], Nat.zero_le _, Nat.zero_le _, rfl, o0, Below.refl _ _⟩
        case round =>
          clear o0
          obtain ⟨j, xs, hj, hj45, rfl, oo, g⟩ := hrel
          have Cr := C.later g
          have c0 := Cr.r0
          by_cases hlt : j < lr.length
          · by_cases h45 : j < 45
            · rcases HVc.out with h0 | ⟨p, o, rfl, cp⟩
              · rw [show lr = [] from List.map_eq_nil_iff.1 h0] at hlt
                simp at hlt
              · have d0 := cp j (str lr[j]) (by unfold strs; rw [List.getElem?_map, List.getElem?_eq_getElem hlt]; rfl)
                have hbp : p < W6.heap.size := Nat.lt_of_lt_of_le (World.block_lt_of_cell? w _ d0) C.g.size
                have d1 : wr.cell? ⟨p, o + j, none⟩ = some (str lr[j]) := ((C.g.then g).cell (World.block_lt_of_cell? w _ d0)).trans d0
                have hy := hLR.out lr[j] (List.getElem_mem hlt)
                clear cp d0 Cr
                generalize lr[j] = y at *
                unfold str at d1
                have hm1 : (if (10 : Int) < (y.length : Int) then (10 : Int) else (y.length : Int)) = ((min y.length 10 : Nat) : Int) := min_if y.length 10
                have hx := extract_take y 10
                have hm2 : (0 : Int) ≤ ((min y.length 10 : Nat) : Int) := by omega
                have hm3 : ((min y.length 10 : Nat) : Int) ≤ (y.length : Int) := by omega
                generalize min y.length 10 = n0 at *
                have nj1 : (0 : Int) ≤ (j : Int) := by omega
                have nj2 : (j : Int) < (lr.length : Int) := by omega
                go_wp2_with fail
                refine wp_region_noPanic ?_
                refine wp_region_held_drew (S := fun W => W.cell? ⟨w.heap.size + 1 + 1, 0, none⟩ = some (.slice (some ⟨p, o, none⟩) lr.length capr) ∧ W.cell? ⟨p, o + j, none⟩ = some (.string ⟨y.toArray⟩)) (by kernel_rfl) ⟨by rw [World.cell?_drew]; exact c0, by rw [World.cell?_drew]; exact d1⟩ (fun hHeld => ?_)
                have oo := owns_later oo (Below.refl _ wr).drew
                have g := Grows.then g (Below.refl _ wr).drew
                have c0 := hHeld.1
                have d1 := hHeld.2
                generalize wr.drew = wd at *
                refine wpAnyT_begin [0, 1, 2, 3, 4, 5, 6, 7, 8, 9, 10, 11, 12, 13] (by kernel_rfl) (by kernel_rfl) ?_
                refine wpAnyT_take (oi := ⟨some 94, Op.move (Operand.tmp 19), 28, _, _, none⟩) (v := u19) rfl (fun _ _ _ h => h) (by rfl) (by assumption) (fun wS hSw => ?_) ?_
                · clear hSw c0 d1 oo g hHeld; go_simp
                simp only [Act.put, List.setIfInBounds_toArray, List.set_cons_zero, List.set_cons_succ]
                refine wpAnyT_take (oi := ⟨some 95, Op.fieldAddr 43 (Operand.tmp 7) 0, 0, _, _, none⟩) (v := .pointer (some ⟨w.heap.size + 1 + 1, 0, none⟩)) rfl (fun _ _ _ h => h) (by rfl) (by assumption) (fun wS hSw => ?_) ?_
                · clear hSw c0 d1 oo g hHeld; go_simp
                simp only [Act.put, List.setIfInBounds_toArray, List.set_cons_zero, List.set_cons_succ]
                refine wpAnyT_take (oi := ⟨some 96, Op.load 28 (Operand.tmp 95), 28, _, _, none⟩) (v := .slice (some ⟨p, o, none⟩) lr.length capr) rfl (fun _ _ _ h => h) (by rfl) (by assumption) (fun wS hSw => ?_) ?_
                · obtain ⟨cS, -⟩ := hSw; clear c0 d1 oo g hHeld; go_simp
                simp only [Act.put, List.setIfInBounds_toArray, List.set_cons_zero, List.set_cons_succ]
                refine wpAnyT_take (oi := ⟨some 97, Op.move (Operand.tmp 20), 3, _, _, none⟩) (v := .int .i64 (j : Int)) rfl (fun _ _ _ h => h) (by rfl) (by assumption) (fun wS hSw => ?_) ?_
                · clear hSw c0 d1 oo g hHeld; go_simp
                simp only [Act.put, List.setIfInBounds_toArray, List.set_cons_zero, List.set_cons_succ]
                refine wpAnyT_take (oi := ⟨some 98, Op.indexAddr 28 (Operand.tmp 96) (Operand.tmp 97), 0, _, _, none⟩) (v := .pointer (some ⟨p, o + j, none⟩)) rfl (fun _ _ _ h => h) (by rfl) (by assumption) (fun wS hSw => ?_) ?_
                · clear hSw c0 d1 oo g hHeld; go_simp
                simp only [Act.put, List.setIfInBounds_toArray, List.set_cons_zero, List.set_cons_succ]
                refine wpAnyT_take (oi := ⟨some 99, Op.load 9 (Operand.tmp 98), 9, _, _, none⟩) (v := .string ⟨y.toArray⟩) rfl (fun _ _ _ h => h) (by rfl) (by assumption) (fun wS hSw => ?_) ?_
                · obtain ⟨-, cS⟩ := hSw; clear c0 d1 oo g hHeld; go_simp
                simp only [Act.put, List.setIfInBounds_toArray, List.set_cons_zero, List.set_cons_succ]
                refine wpAnyT_take (oi := ⟨some 100, Op.fieldAddr 43 (Operand.tmp 7) 0, 0, _, _, none⟩) (v := .pointer (some ⟨w.heap.size + 1 + 1, 0, none⟩)) rfl (fun _ _ _ h => h) (by rfl) (by assumption) (fun wS hSw => ?_) ?_
                · clear hSw c0 d1 oo g hHeld; go_simp
                simp only [Act.put, List.setIfInBounds_toArray, List.set_cons_zero, List.set_cons_succ]
                refine wpAnyT_take (oi := ⟨some 101, Op.load 28 (Operand.tmp 100), 28, _, _, none⟩) (v := .slice (some ⟨p, o, none⟩) lr.length capr) rfl (fun _ _ _ h => h) (by rfl) (by assumption) (fun wS hSw => ?_) ?_
                · obtain ⟨cS, -⟩ := hSw; clear c0 d1 oo g hHeld; go_simp
                simp only [Act.put, List.setIfInBounds_toArray, List.set_cons_zero, List.set_cons_succ]
                refine wpAnyT_take (oi := ⟨some 102, Op.move (Operand.tmp 20), 3, _, _, none⟩) (v := .int .i64 (j : Int)) rfl (fun _ _ _ h => h) (by rfl) (by assumption) (fun wS hSw => ?_) ?_
                · clear hSw c0 d1 oo g hHeld; go_simp
                simp only [Act.put, List.setIfInBounds_toArray, List.set_cons_zero, List.set_cons_succ]
                refine wpAnyT_take (oi := ⟨some 103, Op.indexAddr 28 (Operand.tmp 101) (Operand.tmp 102), 0, _, _, none⟩) (v := .pointer (some ⟨p, o + j, none⟩)) rfl (fun _ _ _ h => h) (by rfl) (by assumption) (fun wS hSw => ?_) ?_
                · clear hSw c0 d1 oo g hHeld; go_simp
                simp only [Act.put, List.setIfInBounds_toArray, List.set_cons_zero, List.set_cons_succ]
                refine wpAnyT_take (oi := ⟨some 104, Op.load 9 (Operand.tmp 103), 9, _, _, none⟩) (v := .string ⟨y.toArray⟩) rfl (fun _ _ _ h => h) (by rfl) (by assumption) (fun wS hSw => ?_) ?_
                · obtain ⟨-, cS⟩ := hSw; clear c0 d1 oo g hHeld; go_simp
                simp only [Act.put, List.setIfInBounds_toArray, List.set_cons_zero, List.set_cons_succ]
                refine wpAnyT_take (oi := ⟨some 105, Op.call { callee := Callee.builtin Builtin.len, args := #[Operand.tmp 104], argTypes := #[9] }, 3, _, _, none⟩) (v := .int .i64 (y.length : Int)) rfl (fun _ _ _ h => h) (by rfl) (by assumption) (fun wS hSw => ?_) ?_
                · clear hSw c0 d1 oo g hHeld; go_simp
                simp only [Act.put, List.setIfInBounds_toArray, List.set_cons_zero, List.set_cons_succ]
                refine wpAnyT_take (oi := ⟨some 106, Op.call { callee := Callee.builtin Builtin.min, args := #[Operand.tmp 105, Operand.const (Value.int IntKind.i64 10)], argTypes := #[3, 3] }, 3, _, _, none⟩) (v := .int .i64 (n0 : Int)) rfl (fun _ _ _ h => h) (by rfl) (by assumption) (fun wS hSw => ?_) ?_
                · clear hSw c0 d1 oo g hHeld; go_simp
                simp only [Act.put, List.setIfInBounds_toArray, List.set_cons_zero, List.set_cons_succ]
                refine wpAnyT_take (oi := ⟨some 107, Op.slice 9 (Operand.tmp 99) none (some (Operand.tmp 106)) none, 9, _, _, none⟩) (v := .string ⟨(y.take 10).toArray⟩) rfl (fun _ _ _ h => h) (by rfl) (by assumption) (fun wS hSw => ?_) ?_
                · clear hSw c0 d1 oo g hHeld; go_simp
                simp only [Act.put, List.setIfInBounds_toArray, List.set_cons_zero, List.set_cons_succ]
                refine wpAnyT_end ?_
                refine wpAnyH_listed #[true, true, true, true, true, true, true, true, true, true, true, true, true, true, false, false, false] (by kernel_rfl) ?_
                refine wpAnyH_ready (rs := [14]) (by kernel_rfl) (by simp) ?_
                refine AllReadyH.cons (o := ⟨some 108, Op.buildSlice 28 1 #[(0, Operand.tmp 107)], 28, _, _, none⟩) rfl (fun K hK => ?_) AllReadyH.nil
                go_simp
                have n1 := World.cell?_alloc_new wd #[.string ⟨(y.take 10).toArray⟩] 9 0
                have oo := owns_later oo ((Below.refl _ wd).alloc (Nat.le_refl _) (.cells #[.string ⟨(y.take 10).toArray⟩] 9))
                have g := g.alloc g.size (.cells #[.string ⟨(y.take 10).toArray⟩] 9)
                have c0 := ((Below.refl _ wd).alloc (Nat.le_refl _) (.cells #[.string ⟨(y.take 10).toArray⟩] 9)).cell (World.block_lt_of_cell? _ _ c0) |>.trans c0
                have d1 := ((Below.refl _ wd).alloc (Nat.le_refl _) (.cells #[.string ⟨(y.take 10).toArray⟩] 9)).cell (World.block_lt_of_cell? _ _ d1) |>.trans d1
                generalize wd.alloc (.cells #[.string ⟨(y.take 10).toArray⟩] 9) = we at *
                clear hHeld
                refine hK.out _ _ (⟨c0, d1⟩) (fun hHeld => ?_)
                clear hK K
                try simp only [Act.put, List.setIfInBounds_toArray, List.set_cons_zero, List.set_cons_succ]
                refine wpAnyH_ready (rs := [15]) (by kernel_rfl) (by simp) ?_
                refine AllReadyH.cons (o := ⟨some 109, Op.call { callee := Callee.builtin Builtin.append, args := #[Operand.tmp 94, Operand.tmp 108], argTypes := #[28, 28] }, 28, _, _, none⟩) rfl (fun K hK => ?_) AllReadyH.nil
                refine step_app9 rfl _ _ rfl g rfl oo (y.take 10) rfl n1 (by omega) ?_
                intro ao4 cap4 w4 o4 b4 h4
                rw [strs_snoc] at o4
                clear hHeld
                refine hK.out _ _ ⟨(h4 _ hb7).trans c0, (h4 _ hbp).trans d1⟩ (fun hHeld => ?_)
                clear hK K
                try simp only [Act.put, List.setIfInBounds_toArray, List.set_cons_zero, List.set_cons_succ]
                refine wpAnyT_begin [16] (by kernel_rfl) (by kernel_rfl) ?_
                refine wpAnyT_take (oi := ⟨some 19, Op.assign (Operand.tmp 109), 28, _, _, none⟩) (v := .slice ao4 (j + 1) cap4) rfl (fun _ _ _ h => h) (by rfl) (by assumption) (fun wS hSw => ?_) ?_
                · clear hSw; go_simp
                simp only [Act.put, List.setIfInBounds_toArray, List.set_cons_zero, List.set_cons_succ]
                refine wpAnyT_end ?_
                refine wpAnyH_done (by kernel_rfl) ?_ _
                refine NoPanic.normal ?_
                clear hm1 hx hHeld c0 d1
                go_wp2_with fail
                go_roundw
                case rel => exact ⟨j + 1, _, by omega, by omega, by go_num, o4, b4⟩
                case measure => simp [RowKit.intOf]; omega
            · obtain rfl : j = 45 := by omega
              go_wp2_with fail
              go_meet
              exact ⟨g, xs, _, by omega, oo⟩
          · obtain rfl : j = lr.length := by omega
            go_wp2_with fail
            go_meet
            exact ⟨g, xs, _, by omega, oo⟩
      case rest =>
        obtain ⟨gB, xsB, mB, hmB, oB⟩ := hcut
        have hxB : xsB.length ≤ 100 := by have := oB.1; rw [strs_length] at this; omega
        have C := C.later gB
        have HR := Lib.hid (HR.out.later gB)
        have HP := Lib.hid (HP.out.later gB)
        have RA := Lib.hid (RA.out.later gB)
        have RB := Lib.hid (Row.of_owns oB)
        clear gB oB
        generalize wc = W7 at *
        have hfA : ∃ a n cap, u16 = .slice a n cap := by
          obtain ⟨a, cap, h, _⟩ := RA.out
          exact ⟨a, _, cap, h⟩
        have hfB : ∃ a n cap, u19 = .slice a n cap := by
          obtain ⟨a, cap, h, _⟩ := RB.out
          exact ⟨a, _, cap, h⟩
        obtain ⟨aA, nA, cA, rfl⟩ := hfA
        obtain ⟨aB, nB, cB, rfl⟩ := hfB
        have nk1 : (0 : Int) ≤ (kk : Int) := by omega
        have nk2 : (kk : Int) ≤ (P.length : Int) := by omega
        go_upto_region 22 with fail
        refine wp_region_noPanic ?_
        refine wp_region_held_drew (S := fun W => Grows W7 W) (by kernel_rfl) (Below.refl _ W7).drew (fun hHeld => ?_)
        have g := hHeld
        generalize W7.drew = Wd at *
        refine wpAnyT_begin [0, 1, 3, 5, 7, 8, 9, 10, 11, 12, 13, 14, 17] (by kernel_rfl) (by kernel_rfl) ?_
        refine wpAnyT_take (oi := ⟨some 110, Op.move (Operand.tmp 12), 28, _, _, none⟩) (v := .slice aP P.length capP) rfl (fun _ _ _ h => h) (by rfl) (by assumption) (fun wS hSw => ?_) ?_
        · clear hSw g hHeld; go_simp
        simp only [Act.put, List.setIfInBounds_toArray, List.set_cons_zero, List.set_cons_succ]
        refine wpAnyT_take (oi := ⟨some 111, Op.move (Operand.tmp 16), 28, _, _, none⟩) (v := .slice aA nA cA) rfl (fun _ _ _ h => h) (by rfl) (by assumption) (fun wS hSw => ?_) ?_
        · clear hSw g hHeld; go_simp
        simp only [Act.put, List.setIfInBounds_toArray, List.set_cons_zero, List.set_cons_succ]
        refine wpAnyT_take (oi := ⟨some 113, Op.move (Operand.tmp 12), 28, _, _, none⟩) (v := .slice aP P.length capP) rfl (fun _ _ _ h => h) (by rfl) (by assumption) (fun wS hSw => ?_) ?_
        · clear hSw g hHeld; go_simp
        simp only [Act.put, List.setIfInBounds_toArray, List.set_cons_zero, List.set_cons_succ]
        refine wpAnyT_take (oi := ⟨some 115, Op.move (Operand.tmp 19), 28, _, _, none⟩) (v := .slice aB nB cB) rfl (fun _ _ _ h => h) (by rfl) (by assumption) (fun wS hSw => ?_) ?_
        · clear hSw g hHeld; go_simp
        simp only [Act.put, List.setIfInBounds_toArray, List.set_cons_zero, List.set_cons_succ]
        refine wpAnyT_take (oi := ⟨some 117, Op.move (Operand.tmp 12), 28, _, _, none⟩) (v := .slice aP P.length capP) rfl (fun _ _ _ h => h) (by rfl) (by assumption) (fun wS hSw => ?_) ?_
        · clear hSw g hHeld; go_simp
        simp only [Act.put, List.setIfInBounds_toArray, List.set_cons_zero, List.set_cons_succ]
        refine wpAnyT_take (oi := ⟨some 118, Op.move (Operand.tmp 11), 3, _, _, none⟩) (v := .int .i64 (k : Int)) rfl (fun _ _ _ h => h) (by rfl) (by assumption) (fun wS hSw => ?_) ?_
        · clear hSw g hHeld; go_simp
        simp only [Act.put, List.setIfInBounds_toArray, List.set_cons_zero, List.set_cons_succ]
        refine wpAnyT_take (oi := ⟨some 119, Op.move (Operand.tmp 12), 28, _, _, none⟩) (v := .slice aP P.length capP) rfl (fun _ _ _ h => h) (by rfl) (by assumption) (fun wS hSw => ?_) ?_
        · clear hSw g hHeld; go_simp
        simp only [Act.put, List.setIfInBounds_toArray, List.set_cons_zero, List.set_cons_succ]
        refine wpAnyT_take (oi := ⟨some 120, Op.call { callee := Callee.builtin Builtin.len, args := #[Operand.tmp 119], argTypes := #[28] }, 3, _, _, none⟩) (v := .int .i64 (P.length : Int)) rfl (fun _ _ _ h => h) (by rfl) (by assumption) (fun wS hSw => ?_) ?_
        · clear hSw g hHeld; go_simp
        simp only [Act.put, List.setIfInBounds_toArray, List.set_cons_zero, List.set_cons_succ]
        refine wpAnyT_take (oi := ⟨some 121, Op.binOp BinOp.add 3 (Operand.tmp 120) (Operand.const (Value.int IntKind.i64 1)) 3, 3, _, _, none⟩) (v := .int .i64 ((P.length : Int) + 1)) rfl (fun _ _ _ h => h) (by rfl) (by assumption) (fun wS hSw => ?_) ?_
        · clear hSw g hHeld; go_simp
        simp only [Act.put, List.setIfInBounds_toArray, List.set_cons_zero, List.set_cons_succ]
        refine wpAnyT_take (oi := ⟨some 122, Op.binOp BinOp.rem 3 (Operand.tmp 118) (Operand.tmp 121) 3, 3, _, _, none⟩) (v := .int .i64 (kk : Int)) rfl (fun _ _ _ h => h) (by rfl) (by assumption) (fun wS hSw => ?_) ?_
        · clear hSw g hHeld; go_simp
        simp only [Act.put, List.setIfInBounds_toArray, List.set_cons_zero, List.set_cons_succ]
        refine wpAnyT_take (oi := ⟨some 123, Op.slice 28 (Operand.tmp 117) none (some (Operand.tmp 122)) none, 28, _, _, none⟩) (v := .slice aP kk capP) rfl (fun _ _ _ h => h) (by rfl) (by assumption) (fun wS hSw => ?_) ?_
        · clear hSw g hHeld; go_simp; intro hh; omega
        simp only [Act.put, List.setIfInBounds_toArray, List.set_cons_zero, List.set_cons_succ]
        refine wpAnyT_take (oi := ⟨some 124, Op.move (Operand.tmp 19), 28, _, _, none⟩) (v := .slice aB nB cB) rfl (fun _ _ _ h => h) (by rfl) (by assumption) (fun wS hSw => ?_) ?_
        · clear hSw g hHeld; go_simp
        simp only [Act.put, List.setIfInBounds_toArray, List.set_cons_zero, List.set_cons_succ]
        refine wpAnyT_take (oi := ⟨some 127, Op.move (Operand.const (Value.int IntKind.i64 0)), 3, _, _, none⟩) (v := .int .i64 0) rfl (fun _ _ _ h => h) (by rfl) (by assumption) (fun wS hSw => ?_) ?_
        · clear hSw g hHeld; go_simp
        simp only [Act.put, List.setIfInBounds_toArray, List.set_cons_zero, List.set_cons_succ]
        refine wpAnyT_end ?_
        refine wpAnyH_listed #[true, true, false, true, false, true, false, true, true, true, true, true, true, true, true, false, false, true] (by kernel_rfl) ?_
        refine wpAnyH_ready (rs := [2]) (by kernel_rfl) (by simp) ?_
        refine AllReadyH.cons (o := ⟨some 112, Op.buildSlice 28 0 #[], 28, _, _, none⟩) rfl (fun K hK => ?_) AllReadyH.nil
        go_simp
        have o1 := World.ownsRow_made (base := W7.heap.size) (e := 9) (size := 1) Wd #[] 0 g.size (Nat.zero_le _) rfl
        have g := g.alloc g.size (.cells #[] 9)
        generalize Wd.heap.size = q1 at *
        generalize Wd.alloc (.cells #[] 9) = We at *
        clear hHeld
        refine hK.out _ _ (g) (fun hHeld => ?_)
        clear hK K
        try simp only [Act.put, List.setIfInBounds_toArray, List.set_cons_zero, List.set_cons_succ]
        refine wpAnyH_ready (rs := [4]) (by kernel_rfl) (by simp) ?_
        refine AllReadyH.cons (o := ⟨some 114, Op.call { callee := Callee.builtin Builtin.append, args := #[Operand.tmp 112, Operand.tmp 113], argTypes := #[28, 28] }, 28, _, _, none⟩) rfl (fun K hK => ?_) AllReadyH.nil
        refine step_appR rfl _ _ rfl g rfl o1 P rfl (HP.out.later g) (by omega) ?_
        intro v4 w4 o4 g4
        clear hHeld
        refine hK.out _ _ g4 (fun hHeld => ?_)
        clear hK K
        try simp only [Act.put, List.setIfInBounds_toArray, List.set_cons_zero, List.set_cons_succ]
        refine wpAnyH_ready (rs := [6]) (by kernel_rfl) (by simp) ?_
        refine AllReadyH.cons (o := ⟨some 116, Op.call { callee := Callee.builtin Builtin.append, args := #[Operand.tmp 114, Operand.tmp 115], argTypes := #[28, 28] }, 28, _, _, none⟩) rfl (fun K hK => ?_) AllReadyH.nil
        refine step_appR rfl _ _ rfl g4 rfl o4 xsB rfl (RB.out.later g4) (by omega) ?_
        intro v6 w6 o6 g6
        obtain ⟨a6, c6, rfl⟩ := owns_form o6
        clear hHeld
        refine hK.out _ _ g6 (fun hHeld => ?_)
        clear hK K
        try simp only [Act.put, List.setIfInBounds_toArray, List.set_cons_zero, List.set_cons_succ]
        refine wpAnyH_ready (rs := [15]) (by kernel_rfl) (by simp) ?_
        refine AllReadyH.cons (o := ⟨some 125, Op.buildSlice 44 5 #[(0, Operand.tmp 110), (1, Operand.tmp 111), (2, Operand.tmp 116), (3, Operand.tmp 123), (4, Operand.tmp 124)], 44, _, _, none⟩) rfl (fun K hK => ?_) AllReadyH.nil
        go_simp
        clear hHeld
        refine hK.out _ _ (g6.alloc g6.size _) (fun hHeld => ?_)
        clear hK K
        try simp only [Act.put, List.setIfInBounds_toArray, List.set_cons_zero, List.set_cons_succ]
        refine wpAnyT_begin [16] (by kernel_rfl) (by kernel_rfl) ?_
        refine wpAnyT_take (oi := ⟨some 126, Op.call { callee := Callee.builtin Builtin.len, args := #[Operand.tmp 125], argTypes := #[44] }, 3, _, _, none⟩) (v := .int .i64 5) rfl (fun _ _ _ h => h) (by rfl) (by assumption) (fun wS hSw => ?_) ?_
        · clear hSw; go_simp
        simp only [Act.put, List.setIfInBounds_toArray, List.set_cons_zero, List.set_cons_succ]
        refine wpAnyT_end ?_
        refine wpAnyH_done (by kernel_rfl) ?_ _
        refine NoPanic.normal ?_
        have RP := HP.out.later g6
        have RA := RA.out.later g6
        have RB := RB.out.later g6
        have R6 := Row.of_owns o6
        have C := C.later g6
        have HR := Lib.hid (HR.out.later g6)
        rw [List.nil_append, ← strs_append, Nat.zero_add] at R6
        have RK := RP.cutTake hkk
        rw [strs_take] at RK
        obtain ⟨W8, hW8⟩ : ∃ W8, w6.alloc (.cells #[.slice aP P.length capP, .slice aA nA cA, .slice a6 (P.length + xsB.length) c6, .slice aP kk capP, .slice aB nB cB] 28) = W8 := ⟨_, rfl⟩
        have g8 : Grows w6 W8 := by rw [← hW8]; exact (Below.refl _ _).alloc (Nat.le_refl _) _
        have hfive : ∀ j, j < 5 → ∃ a n cap p, W8.cell? ⟨w6.heap.size, j, none⟩ = some (.slice a n cap) ∧ Row W8 (.slice a n cap) (strs p) := by
          intro j hj
          match j, hj with
          | 0, _ => exact ⟨_, _, _, P, by rw [← hW8, World.cell?_alloc_new]; rfl, RP.later g8⟩
          | 1, _ => exact ⟨_, _, _, xsA, by rw [← hW8, World.cell?_alloc_new]; rfl, RA.later g8⟩
          | 2, _ => exact ⟨_, _, _, P ++ xsB, by rw [← hW8, World.cell?_alloc_new]; rfl, R6.later g8⟩
          | 3, _ => exact ⟨_, _, _, P.take kk, by rw [← hW8, World.cell?_alloc_new]; rfl, RK.later g8⟩
          | 4, _ => exact ⟨_, _, _, xsB, by rw [← hW8, World.cell?_alloc_new]; rfl, RB.later g8⟩
        have HF5 := Lib.hid hfive
        have C8 := C.later g8
        rw [hW8]
        clear hW8 g8 hfive RP RA RB R6 RK o6 o4 o1 g6 g4 g hHeld hz1 hz2 hkm hkm2 hwP nk1 nk2 hPlow
        generalize w6.heap.size = q5 at *
        have hm1 : (if (30 : Int) < (s.length : Int) then (30 : Int) else (s.length : Int)) = ((min s.length 30 : Nat) : Int) := min_if s.length 30
        have hx := extract_take s 30
        have hm2 : (0 : Int) ≤ ((min s.length 30 : Nat) : Int) := by omega
        have hm3 : ((min s.length 30 : Nat) : Int) ≤ (s.length : Int) := by omega
        generalize min s.length 30 = n3 at *
        go_wp2_with fail
        go_loopw [127] (fun n wr => ∃ j : Nat, j ≤ 5 ∧ n = .int .i64 j ∧ Grows W8 wr) (fun n _ => 5 - (RowKit.intOf n).toNat)
        case atStart => exact ⟨0, Nat.zero_le _, rfl, Below.refl _ _⟩
        case round =>
          obtain ⟨j, hj, rfl, g⟩ := hrel
          generalize wr = V1 at *
          by_cases hlt : j < 5
          · have hb5 : decide ((j : Int) < 5) = true := decide_eq_true (by omega)
            obtain ⟨a, n, cap, p, hc5, hr5⟩ := HF5.out j hlt
            have d5 := (g.cell (World.block_lt_of_cell? W8 _ hc5)).trans hc5
            have HR5 := Lib.hid hr5
            have CV := C8.later g
            clear hc5 hr5
            go_wp2_with fail
            refine wp_region_noPanic ?_
            refine wp_region_held_drew (S := fun W => VX w b0 b1 s at' c (.slice ar lr.length capr) z W ∧ Grows W8 W) (by kernel_rfl) ⟨CV.drew, Grows.then g (Below.refl _ V1).drew⟩ (fun hHeld => ?_)
            have hH := hHeld
            generalize V1.drew = Vd at *
            refine wpAnyT_begin [0, 1, 2, 4, 5, 6, 7, 8, 9, 10, 13] (by kernel_rfl) (by kernel_rfl) ?_
            refine wpAnyT_take (oi := ⟨some 131, Op.move (Operand.tmp 15), 9, _, _, none⟩) (v := .string ⟨lf.toArray⟩) rfl (fun _ _ _ h => h) (by rfl) (by assumption) (fun wS hSw => ?_) ?_
            · clear hSw hH hHeld; go_simp
            simp only [Act.put, List.setIfInBounds_toArray, List.set_cons_zero, List.set_cons_succ]
            refine wpAnyT_take (oi := ⟨some 132, Op.load 27 (Operand.tmp 6), 27, _, _, none⟩) (v := .agg #[.string ⟨s.toArray⟩, .int .u8 (at' : Int), .int .u8 (c : Int)]) rfl (fun _ _ _ h => h) (by rfl) (by assumption) (fun wS hSw => ?_) ?_
            · obtain ⟨⟨-, -, c0, c1, c2, -, -, -⟩, -⟩ := hSw; clear hH hHeld; go_simp
            simp only [Act.put, List.setIfInBounds_toArray, List.set_cons_zero, List.set_cons_succ]
            refine wpAnyT_take (oi := ⟨some 133, Op.move (Operand.tmp 15), 9, _, _, none⟩) (v := .string ⟨lf.toArray⟩) rfl (fun _ _ _ h => h) (by rfl) (by assumption) (fun wS hSw => ?_) ?_
            · clear hSw hH hHeld; go_simp
            simp only [Act.put, List.setIfInBounds_toArray, List.set_cons_zero, List.set_cons_succ]
            refine wpAnyT_take (oi := ⟨some 135, Op.fieldAddr 27 (Operand.tmp 6) 0, 0, _, _, none⟩) (v := .pointer (some ⟨w.heap.size + 1, 0, none⟩)) rfl (fun _ _ _ h => h) (by rfl) (by assumption) (fun wS hSw => ?_) ?_
            · clear hSw hH hHeld; go_simp
            simp only [Act.put, List.setIfInBounds_toArray, List.set_cons_zero, List.set_cons_succ]
            refine wpAnyT_take (oi := ⟨some 136, Op.load 9 (Operand.tmp 135), 9, _, _, none⟩) (v := .string ⟨s.toArray⟩) rfl (fun _ _ _ h => h) (by rfl) (by assumption) (fun wS hSw => ?_) ?_
            · obtain ⟨⟨-, -, c0, c1, c2, -, -, -⟩, -⟩ := hSw; clear hH hHeld; go_simp
            simp only [Act.put, List.setIfInBounds_toArray, List.set_cons_zero, List.set_cons_succ]
            refine wpAnyT_take (oi := ⟨some 137, Op.fieldAddr 27 (Operand.tmp 6) 0, 0, _, _, none⟩) (v := .pointer (some ⟨w.heap.size + 1, 0, none⟩)) rfl (fun _ _ _ h => h) (by rfl) (by assumption) (fun wS hSw => ?_) ?_
            · clear hSw hH hHeld; go_simp
            simp only [Act.put, List.setIfInBounds_toArray, List.set_cons_zero, List.set_cons_succ]
            refine wpAnyT_take (oi := ⟨some 138, Op.load 9 (Operand.tmp 137), 9, _, _, none⟩) (v := .string ⟨s.toArray⟩) rfl (fun _ _ _ h => h) (by rfl) (by assumption) (fun wS hSw => ?_) ?_
            · obtain ⟨⟨-, -, c0, c1, c2, -, -, -⟩, -⟩ := hSw; clear hH hHeld; go_simp
            simp only [Act.put, List.setIfInBounds_toArray, List.set_cons_zero, List.set_cons_succ]
            refine wpAnyT_take (oi := ⟨some 139, Op.call { callee := Callee.builtin Builtin.len, args := #[Operand.tmp 138], argTypes := #[9] }, 3, _, _, none⟩) (v := .int .i64 (s.length : Int)) rfl (fun _ _ _ h => h) (by rfl) (by assumption) (fun wS hSw => ?_) ?_
            · clear hSw hH hHeld; go_simp
            simp only [Act.put, List.setIfInBounds_toArray, List.set_cons_zero, List.set_cons_succ]
            refine wpAnyT_take (oi := ⟨some 140, Op.call { callee := Callee.builtin Builtin.min, args := #[Operand.tmp 139, Operand.const (Value.int IntKind.i64 30)], argTypes := #[3, 3] }, 3, _, _, none⟩) (v := .int .i64 (n3 : Int)) rfl (fun _ _ _ h => h) (by rfl) (by assumption) (fun wS hSw => ?_) ?_
            · clear hSw hH hHeld; go_simp
            simp only [Act.put, List.setIfInBounds_toArray, List.set_cons_zero, List.set_cons_succ]
            refine wpAnyT_take (oi := ⟨some 141, Op.slice 9 (Operand.tmp 136) none (some (Operand.tmp 140)) none, 9, _, _, none⟩) (v := .string ⟨(s.take 30).toArray⟩) rfl (fun _ _ _ h => h) (by rfl) (by assumption) (fun wS hSw => ?_) ?_
            · clear hSw hH hHeld; go_simp
            simp only [Act.put, List.setIfInBounds_toArray, List.set_cons_zero, List.set_cons_succ]
            refine wpAnyT_take (oi := ⟨some 144, Op.move (Operand.const (Value.int IntKind.i64 0)), 3, _, _, none⟩) (v := .int .i64 0) rfl (fun _ _ _ h => h) (by rfl) (by assumption) (fun wS hSw => ?_) ?_
            · clear hSw hH hHeld; go_simp
            simp only [Act.put, List.setIfInBounds_toArray, List.set_cons_zero, List.set_cons_succ]
            refine wpAnyT_end ?_
            refine wpAnyH_listed #[true, true, true, false, true, true, true, true, true, true, true, false, false, true] (by kernel_rfl) ?_
            refine wpAnyH_ready (rs := [3]) (by kernel_rfl) (by simp) ?_
            refine AllReadyH.cons (o := ⟨some 134, Op.call { callee := Callee.value (Operand.func 17), args := #[Operand.tmp 132, Operand.tmp 133], argTypes := #[27, 9] }, 9, _, _, none⟩) rfl (fun K hK => ?_) AllReadyH.nil
            go_simp
            go_at_call 17
            refine (change_any _ at' c lf _ (by omega) ha hc).mono ?_
            rintro e V2 ⟨rfl, gg⟩
            have hH : _ ∧ _ := ⟨hH.1.later gg, hH.2.then gg⟩
            clear gg
            go_wp2_with fail
            clear hHeld
            refine hK.out _ _ (hH) (fun hHeld => ?_)
            clear hK K
            try simp only [Act.put, List.setIfInBounds_toArray, List.set_cons_zero, List.set_cons_succ]
            refine wpAnyH_ready (rs := [11]) (by kernel_rfl) (by simp) ?_
            refine AllReadyH.cons (o := ⟨some 142, Op.buildSlice 28 3 #[(0, Operand.tmp 131), (1, Operand.tmp 134), (2, Operand.tmp 141)], 28, _, _, none⟩) rfl (fun K hK => ?_) AllReadyH.nil
            go_simp
            clear hHeld
            refine hK.out _ _ (⟨hH.1.alloc _, hH.2.then ((Below.refl _ V2).alloc (Nat.le_refl _) _)⟩) (fun hHeld => ?_)
            clear hK K
            try simp only [Act.put, List.setIfInBounds_toArray, List.set_cons_zero, List.set_cons_succ]
            refine wpAnyT_begin [12] (by kernel_rfl) (by kernel_rfl) ?_
            refine wpAnyT_take (oi := ⟨some 143, Op.call { callee := Callee.builtin Builtin.len, args := #[Operand.tmp 142], argTypes := #[28] }, 3, _, _, none⟩) (v := .int .i64 3) rfl (fun _ _ _ h => h) (by rfl) (by assumption) (fun wS hSw => ?_) ?_
            · clear hSw; go_simp
            simp only [Act.put, List.setIfInBounds_toArray, List.set_cons_zero, List.set_cons_succ]
            refine wpAnyT_end ?_
            refine wpAnyH_done (by kernel_rfl) ?_ _
            refine NoPanic.normal ?_
            have hch : (chg at' c lf).length ≤ 1000 := by unfold chg; rw [List.length_set]; exact hlf
            have hs30 : (s.take 30).length ≤ 1000 := by rw [List.length_take]; omega
            obtain ⟨W9, hW9⟩ : ∃ W9, V2.alloc (.cells #[.string ⟨lf.toArray⟩, .string ⟨(chg at' c lf).toArray⟩, .string ⟨(s.take 30).toArray⟩] 9) = W9 := ⟨_, rfl⟩
            have g9 : Grows V2 W9 := by rw [← hW9]; exact (Below.refl _ _).alloc (Nat.le_refl _) _
            have hthree : ∀ j, j < 3 → ∃ x : List UInt8, x.length ≤ 1000 ∧ W9.cell? ⟨V2.heap.size, j, none⟩ = some (.string ⟨x.toArray⟩) := by
              intro j hj
              match j, hj with
              | 0, _ => exact ⟨lf, hlf, by rw [← hW9, World.cell?_alloc_new]; rfl⟩
              | 1, _ => exact ⟨chg at' c lf, hch, by rw [← hW9, World.cell?_alloc_new]; rfl⟩
              | 2, _ => exact ⟨s.take 30, hs30, by rw [← hW9, World.cell?_alloc_new]; rfl⟩
            have HT := Lib.hid hthree
            have C9 := hH.1.later g9
            have G9 := hH.2.then g9
            rw [hW9]
            clear hW9 g9 hthree hch hs30 hH hHeld CV d5 g
            generalize V2.heap.size = q3 at *
            go_wp2_with fail
            go_loopw [144] (fun n wr => ∃ j3 : Nat, j3 ≤ 3 ∧ n = .int .i64 j3 ∧ Grows W9 wr) (fun n _ => 3 - (RowKit.intOf n).toNat)
            case atStart => exact ⟨0, Nat.zero_le _, rfl, Below.refl _ _⟩
            case round =>
              obtain ⟨j3, hj3, rfl, g⟩ := hrel
              generalize wr = V3 at *
              by_cases hlt3 : j3 < 3
              · have hb3 : decide ((j3 : Int) < 3) = true := decide_eq_true (by omega)
                obtain ⟨x, hx1000, hc3⟩ := HT.out j3 hlt3
                have d3 := (g.cell (World.block_lt_of_cell? W9 _ hc3)).trans hc3
                have r1 := (C9.later g).r1
                clear hc3
                go_wp2_with fail
                have hfour : ∀ j, j < 4 → ∃ y : Int, (V3.alloc (.cells #[.int .i64 (i : Int), .int .i64 (k : Int), .int .i64 z, .int .i64 ix] 3)).cell? ⟨V3.heap.size, j, none⟩ = some (.int .i64 y) := by
                  intro j hj
                  match j, hj with
                  | 0, _ => exact ⟨i, by rw [World.cell?_alloc_new]; rfl⟩
                  | 1, _ => exact ⟨k, by rw [World.cell?_alloc_new]; rfl⟩
                  | 2, _ => exact ⟨z, by rw [World.cell?_alloc_new]; rfl⟩
                  | 3, _ => exact ⟨ix, by rw [World.cell?_alloc_new]; rfl⟩
                have HQ := Lib.hid hfour
                have G10 := Grows.then g ((Below.refl _ V3).alloc (Nat.le_refl _) (.cells #[.int .i64 (i : Int), .int .i64 (k : Int), .int .i64 z, .int .i64 ix] 3))
                clear hfour g d3 r1
                generalize V3.alloc (.cells #[.int .i64 (i : Int), .int .i64 (k : Int), .int .i64 z, .int .i64 ix] 3) = W10 at *
                generalize V3.heap.size = q4 at *
                have RX := Lib.hid (HR5.out.later (G9.then G10))
                go_loopw [159] (fun n wr => ∃ j4 : Nat, j4 ≤ 4 ∧ n = .int .i64 j4 ∧ Grows W10 wr) (fun n _ => 4 - (RowKit.intOf n).toNat)
                case atStart => exact ⟨0, Nat.zero_le _, rfl, Below.refl _ _⟩
                case round =>
                  obtain ⟨j4, hj4, rfl, g⟩ := hrel
                  generalize wr = V4 at *
                  by_cases hlt4 : j4 < 4
                  · obtain ⟨y, hc4⟩ := HQ.out j4 hlt4
                    have d4 := (g.cell (World.block_lt_of_cell? W10 _ hc4)).trans hc4
                    have M1 := Lib.hid (fun W h => vfy_any R x y (.slice a n cap) p W (Nat.le_trans hx1000 (by decide)) h)
                    have M2 := Lib.hid (fun W h => rver_any R x y (.slice a n cap) p W (Nat.le_trans hx1000 (by decide)) h)
                    generalize ver R x y p = b at *
                    clear hc4
                    go_wp2_with fail
                    refine (M1.out _ (RX.out.later g)).mono ?_; rintro e V5 ⟨rfl, g5⟩
                    have g := g.then g5
                    clear g5 d4
                    go_wp2_with fail
                    refine (M2.out _ (RX.out.later g)).mono ?_; rintro e V6 ⟨rfl, g5⟩
                    have g := g.then g5
                    clear g5
                    go_wp2_with fail
                    go_roundw
                    case rel => exact ⟨j4 + 1, by omega, by go_num, g⟩
                    case measure => simp [RowKit.intOf]; omega
                  · obtain rfl : j4 = 4 := by omega
                    have gw := G10.then g
                    go_wp2_with fail
                    go_roundw
                    case rel => exact ⟨j3 + 1, by omega, by go_num, gw⟩
                    case measure => simp [RowKit.intOf]; omega
              · obtain rfl : j3 = 3 := by omega
                have gw := G9.then g
                go_wp2_with fail
                go_roundw
                case rel => exact ⟨j + 1, by omega, by go_num, gw⟩
                case measure => simp [RowKit.intOf]; omega
          · obtain rfl : j = 5 := by omega
            have gw := C8.g.then g
            go_wp2_with fail
            go_ret
            exact ⟨rfl, gw⟩
end Go.Proofs.Ytmgkbkpfhpkbcaa
