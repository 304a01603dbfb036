/- digest.Verify. -/
import Derived.Test.YtmgkbkpfhpkbcaaVer
namespace Go.Proofs.Ytmgkbkpfhpkbcaa
open Go.RowKit Go.Lib

attribute [local go_sem] str arr8

/-- Two digests are compared. -/
theorem eq8 {ops : Array Oper} {rest : List Oper} {op : Oper} {a : Act} {w : World} {Q : Exit → Act → World → Prop} {s t : List UInt8} (hgd : op.guard = none) (x y : Operand) (ho : op.op = .binOp .eql 52 x y 52)
    (hx : a.eval x = agg8 s) (hy : a.eval y = agg8 t) (hs : Hid (s.length = 8)) (ht : Hid (t.length = 8)) (h : wpList Try.prog ops Q rest (a.put op.dst (.bool (s == t))) w) : wpList Try.prog ops Q (op :: rest) a w :=
  wpList_plain hgd fun _ hK => by
    unfold Oper.wp
    rw [exec_eql8 x y ho hx hy hs ht]
    exact hK _ _ h

/-- What stays while a proof is followed: the root in one block of the call's own, the digest that has been reached in another one. -/
structure VC (w : World) (b1 b2 : Nat) (r d : List UInt8) (W : World) : Prop where
  r1 : W.rangeAt b1 0 (bc r)
  r2 : W.rangeAt b2 0 (bc d)
  t2 : W.there b2 0 8
  g : Grows w W
  h1 : w.heap.size ≤ b1
  h2 : w.heap.size ≤ b2
  ne : b1 ≠ b2
  l1 : b1 < W.heap.size
  l2 : b2 < W.heap.size
theorem VC.later {w W W' : World} {b1 b2 : Nat} {r d : List UInt8} (h : VC w b1 b2 r d W) (g : Grows W W') : VC w b1 b2 r d W' :=
  ⟨range_later h.r1 g h.l1, range_later h.r2 g h.l2, there_later h.t2 g h.l2, h.g.then g, h.h1, h.h2, h.ne, Nat.lt_of_lt_of_le h.l1 g.size, Nat.lt_of_lt_of_le h.l2 g.size⟩
theorem set_size (W : World) (b o : Nat) (cs : List Value) : (W.setCells b o cs).heap.size = W.heap.size := by
  induction cs generalizing o W with
  | nil => rfl
  | cons v r ih => rw [World.setCells, ih]; exact World.size_setCell W ⟨b, o, none⟩ v
theorem VC.set {w W : World} {b1 b2 : Nat} {r d : List UInt8} (h : VC w b1 b2 r d W) (e : List UInt8) (he : Hid (e.length = 8)) : VC w b1 b2 r e (W.setCells b2 0 (bc e)) :=
  ⟨World.rangeAt_setCells_apart h.r1 _ _ _ (.inl h.ne), range_set he h.t2, World.there_setCells h.t2 _ _ _, grows_set h.g h.h2, h.h1, h.h2, h.ne, by rw [set_size]; exact h.l1, by rw [set_size]; exact h.l2⟩
/-- Another block of the call's own is written. -/
theorem VC.other {w W : World} {b1 b2 b o : Nat} {r d : List UInt8} {cs : List Value} (h : VC w b1 b2 r d W) (hb1 : b1 ≠ b) (hb2 : b2 ≠ b) (hb : w.heap.size ≤ b) : VC w b1 b2 r d (W.setCells b o cs) :=
  ⟨World.rangeAt_setCells_apart h.r1 _ _ _ (.inl hb1), World.rangeAt_setCells_apart h.r2 _ _ _ (.inl hb2), World.there_setCells h.t2 _ _ _, grows_set h.g hb, h.h1, h.h2, h.ne, by rw [set_size]; exact h.l1, by rw [set_size]; exact h.l2⟩

theorem VC.start {w w2 : World} {b1 : Nat} {r d : List UInt8} (h : HC w b1 r w2) (hb1 : w.heap.size ≤ b1) (hd : Hid (d.length = 8)) : VC w b1 w2.heap.size r d ((w2.alloc zero8).setCells w2.heap.size 0 (bc d)) := by
  have hw := h.g.size
  have hlt := h.lt
  refine ⟨World.rangeAt_setCells_apart (World.rangeAt_alloc h.r _) _ _ _ (.inl (by omega)), range_set hd (there_zero w2), World.there_setCells (there_zero w2) _ _ _, grows_set (h.g.alloc h.g.size _) h.g.size, hb1, h.g.size, by omega, ?_, ?_⟩
  · rw [set_size, World.size_alloc]; omega
  · rw [set_size, World.size_alloc]; omega

set_option maxHeartbeats 600000 in
theorem vfy_loop (root lf : List UInt8) (i : Nat) (v : Value) (p : List (List UInt8)) (w : World) (hr : root.length = 8) (hl : lf.length ≤ 100000) (hv : Row w v (strs p)) (h40 : p.length ≤ 40) (hi : i < 2 ^ p.length) :
    Calls Try.prog 27 #[str root, str lf, .int .i64 (i : Int), v] w fun e w' => e = .returned (.bool (ver root lf i p)) ∧ Grows w w' := by
  obtain ⟨a, cap, rfl, hc1, hc2, hrow⟩ := hv
  rw [strs_length] at hc1
  rw [strs_length]
  have hR := Lib.hid hr
  have hp := pow40 h40
  have n1 : ¬ (i : Int) < 0 := by omega
  have hI : (i : Int) < 2 ^ p.length := by exact_mod_cast hi
  have hsh : ((i : Int) / 2 ^ p.length) = 0 := Int.ediv_eq_zero_of_lt (by omega) hI
  have h40i : (p.length : Int) ≤ 40 := by omega
  have hfl := Lib.hid (show dig [[3], lf].flatten = leaf lf by simp [leaf])
  have hD := Lib.hid (show (leaf lf).length = 8 from dig_length _)
  have hF : Hid ((∀ s ∈ p, s.length = 8) → ver root lf i p = decide (upOf (leaf lf) i p = root)) := Lib.hid (fun h => ver_yes (i := (i : Int)) (decide_eq_true ⟨by omega, h40, hI, h⟩))
  have hN : Hid (∀ s ∈ p, s.length ≠ 8 → ver root lf i p = false) := Lib.hid (fun s hs h => ver_no (decide_eq_false (fun hh => h (hh.2.2.2 s hs))))
  have hiB := Lib.hid (show i ≤ 1099511627776 from by omega)
  generalize leaf lf = D at *
  clear hr hp hI
  go_enter Try.func27, Try.ntmps27
  go_wp2_with fail
  refine (parse_yes root _ hR.out).mono ?_
  rintro e w1 ⟨rfl, g1⟩
  go_wp2_with (first | (refine store8 rfl _ _ rfl rfl rfl hR (there_zero _) ?_))
  have C0 := HC.start g1 hR
  have hb1 : w.heap.size ≤ w1.heap.size := g1.size
  generalize (w1.alloc zero8).setCells w1.heap.size 0 (bc root) = W1 at *
  generalize w1.heap.size = b1 at *
  refine (of_any _ [[3], lf] _ (Row.made _ [[3], lf] (by simp only [strs, List.map_cons, List.map_nil]; rfl) (by simp only [List.length_cons, List.length_nil]) (by simp)) (by simp; omega)).mono ?_
  rintro e w2 ⟨rfl, g2⟩
  have C1 := C0.later (Grows.then ((Below.refl _ _).alloc (Nat.le_refl _) _) g2)
  rw [hfl.out]
  clear C0 g2 g1
  go_wp2_with (first | (refine store8 rfl _ _ rfl rfl rfl hD (there_zero _) ?_))
  have C2 := VC.start C1 hb1 hD
  generalize (w2.alloc zero8).setCells w2.heap.size 0 (bc D) = W2 at *
  generalize w2.heap.size = b2 at *
  clear C1
  clear hsh hi hfl
  go_loopw [2, 44] (fun j c wr => ∃ k : Nat, k ≤ p.length ∧ c = .int .i64 k ∧ j = .int .i64 (i / 2 ^ k : Nat) ∧ (∀ s ∈ p.take k, s.length = 8) ∧ VC w b1 b2 root (upOf (D) i (p.take k)) wr) (fun _ c _ => p.length - (RowKit.intOf c).toNat)
  case atStart => exact ⟨0, Nat.zero_le _, rfl, by simp, by simp, C2⟩
  case round =>
    clear C2
    obtain ⟨k, hk, rfl, rfl, hal, C⟩ := hrel
    have HA := Lib.hid hal
    clear hal
    by_cases hlt : k < p.length
    · rcases hrow with h0 | ⟨b, o, rfl, hcell⟩
      · rw [show p = [] from List.map_eq_nil_iff.1 h0] at hlt
        simp at hlt
      · have hcell0 := hcell k (str p[k]) (by unfold strs; rw [List.getElem?_map, List.getElem?_eq_getElem hlt]; rfl)
        have hcell1 : wr.cell? ⟨b, o + k, none⟩ = some (str p[k]) := (C.g.cell (World.block_lt_of_cell? w _ hcell0)).trans hcell0
        have HS := Lib.hid (upOf_snoc (D) i (p.take k) p[k])
        rw [List.length_take_of_le hk, ← take_snoc p k hlt] at HS
        have HT := Lib.hid (take_snoc p k hlt)
        have HD := Lib.hid (div_succ i k)
        have HIb := Lib.hid (show i / 2 ^ k ≤ 1099511627776 from Nat.le_trans (Nat.div_le_self _ _) hiB.out)
        have hmem := Lib.hid (List.getElem_mem hlt)
        have hu8 := Lib.hid (upOf_length i (p.take k) hD.out)
        clear hcell hcell0
        generalize p[k] = s at *
        generalize upOf (D) i (p.take k) = u at *
        generalize i / 2 ^ k = I at *
        by_cases hs : s.length = 8
        · have hsl := Lib.hid hs
          clear hs
          unfold str at hcell1
          go_wp2_with fail
          refine (parse_yes s _ hsl.out).mono ?_
          rintro e w3 ⟨rfl, g3⟩
          have C3 := C.later g3
          clear C g3 hcell1
          have C4 : VC w b1 b2 root u ((w3.alloc zero8).setCells w3.heap.size 0 (bc s)) := (C3.later ((Below.refl _ _).alloc (Nat.le_refl _) _)).other (by have := C3.l1; omega) (by have := C3.l2; omega) C3.g.size
          have r4 : ((w3.alloc zero8).setCells w3.heap.size 0 (bc s)).rangeAt w3.heap.size 0 (bc s) := range_set hsl (there_zero w3)
          have hAl : Hid (∀ x ∈ p.take (k + 1), x.length = 8) := Lib.hid (by
            rw [HT.out]; intro x hx
            rcases List.mem_append.1 hx with h | h
            · exact HA.out x h
            · rw [List.mem_singleton.1 h]; exact hsl.out)
          obtain ⟨Y, hY⟩ : ∃ Y, upOf D i (p.take (k + 1)) = Y := ⟨_, rfl⟩
          have hX := Lib.hid hY
          clear hY
          by_cases hev : I % 2 = 0
          · have he : ((I : Int) % 2 == 0) = true := by simp; omega
            have hE := Lib.hid (show dig (4 :: (u ++ s)) = upOf D i (p.take (k + 1)) by rw [HS.out, if_pos hev])
            clear HS hev
            have hE8 := Lib.hid (show (upOf D i (p.take (k + 1))).length = 8 by rw [← hE.out]; exact dig_length _)
            rw [hX.out] at hE hE8
            go_wp2_with (first | (refine store8 rfl _ _ rfl rfl rfl hsl (there_zero _) ?_) | (refine load8 rfl _ rfl rfl hu8 C4.r2 ?_) | (refine load8 rfl _ rfl rfl hsl r4 ?_))
            refine (node_any u s _ hu8.out hsl.out).mono ?_
            rintro e w5 ⟨rfl, g5⟩
            rw [hE.out]
            have C5 := C4.later g5
            clear C4 r4 g5 C3
            go_wp2_with (first | (refine store8 rfl _ _ rfl rfl rfl hE8 C5.t2 ?_))
            have C6 := C5.set Y hE8
            go_roundw
            case rel => exact ⟨k + 1, by omega, by go_num, i64v ((half I HIb.out).trans (by rw [HD.out])), hAl.out, by rw [hX.out]; exact C6⟩
            case measure => simp [RowKit.intOf]; omega
          · have he : ((I : Int) % 2 == 0) = false := by simp; omega
            have hE := Lib.hid (show dig (4 :: (s ++ u)) = upOf D i (p.take (k + 1)) by rw [HS.out, if_neg hev])
            clear HS hev
            have hE8 := Lib.hid (show (upOf D i (p.take (k + 1))).length = 8 by rw [← hE.out]; exact dig_length _)
            rw [hX.out] at hE hE8
            go_wp2_with (first | (refine store8 rfl _ _ rfl rfl rfl hsl (there_zero _) ?_) | (refine load8 rfl _ rfl rfl hu8 C4.r2 ?_) | (refine load8 rfl _ rfl rfl hsl r4 ?_))
            refine (node_any s u _ hsl.out hu8.out).mono ?_
            rintro e w5 ⟨rfl, g5⟩
            rw [hE.out]
            have C5 := C4.later g5
            clear C4 r4 g5 C3
            go_wp2_with (first | (refine store8 rfl _ _ rfl rfl rfl hE8 C5.t2 ?_))
            have C6 := C5.set Y hE8
            go_roundw
            case rel => exact ⟨k + 1, by omega, by go_num, i64v ((half I HIb.out).trans (by rw [HD.out])), hAl.out, by rw [hX.out]; exact C6⟩
            case measure => simp [RowKit.intOf]; omega
        · have hn := Lib.hid (hN.out s hmem.out hs)
          have hZ := Lib.hid (show [(0 : UInt8), 0, 0, 0, 0, 0, 0, 0].length = 8 from rfl)
          unfold str at hcell1
          go_wp2_with fail
          refine (parse_no s _ hs).mono ?_
          rintro e w3 ⟨rfl, g3⟩
          have C3 := C.later g3
          clear C g3 hcell1 hs
          have g4 : Grows w ((w3.alloc zero8).setCells w3.heap.size 0 (bc [0, 0, 0, 0, 0, 0, 0, 0])) := grows_set (C3.g.alloc C3.g.size _) C3.g.size
          have tz := there_zero w3
          generalize hzz : [(0 : UInt8), 0, 0, 0, 0, 0, 0, 0] = Z at *
          clear hzz
          go_wp2_with (first | (refine store8 rfl _ _ rfl rfl rfl hZ tz ?_))
          go_ret
          exact ⟨ret_b hn.out.symm, g4⟩
    · obtain rfl : k = p.length := by omega
      have hX := Lib.hid (hF.out (by have := HA.out; rwa [List.take_length] at this))
      have hu8 := Lib.hid (upOf_length i p hD.out)
      rw [List.take_length] at C
      generalize upOf D i p = X at *
      clear hlt HA
      have HX := Lib.hid (show ver root lf i p = (X == root) by rw [hX.out, eq_lists])
      clear hX
      go_wp2_with (first | (refine load8 rfl _ rfl rfl hu8 C.r2 ?_) | (refine load8 rfl _ rfl rfl hR C.r1 ?_) | (refine eq8 rfl _ _ rfl rfl rfl hu8 hR ?_))
      go_ret
      exact ⟨ret_b HX.out.symm, C.g⟩

end Go.Proofs.Ytmgkbkpfhpkbcaa
