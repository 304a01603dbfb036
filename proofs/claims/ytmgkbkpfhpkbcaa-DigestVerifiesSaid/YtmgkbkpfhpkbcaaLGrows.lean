/- The law DigestGrows: its walk. -/
import Derived.Test.YtmgkbkpfhpkbcaaLProves
import Derived.Test.YtmgkbkpfhpkbcaaGMath
namespace Go.Proofs.Ytmgkbkpfhpkbcaa
open Go.RowKit Go.Lib

attribute [local go_sem] str

/-- Strings are appended to a slice of the call's own, in a region that draws its order. -/
theorem step_appN {ops : Array Oper} {o : Oper} {a : Act} {w w0 : World} {K : Act → World → Prop} {Q : Exit → Act → World → Prop} {E : Prop} (hgd : o.guard = none) (s x : Operand)
    (ho : o.op = .call { callee := .builtin .append, args := #[s, x], argTypes := #[28, 28] }) {v : Value} {n : Nat} {xs : List Value} (g : Grows w0 w) (hs : a.eval s = v) (hown : w.ownsRow w0.heap.size 9 1 v n xs)
    {ad : Addr} {m c : Nat} (ts : List (List UInt8)) (hx : a.eval x = .slice (some ad) m c) (hm : m = ts.length) (hnew : ∀ j u, (strs ts)[j]? = some u → w.cell? (ad.add j) = some u) (hpos : 0 < ts.length) (hn : n + ts.length ≤ 100000)
    (h : ∀ gg cap w', w'.ownsRow w0.heap.size 9 1 (.slice (some ⟨gg, 0, none⟩) (n + ts.length) cap) (n + ts.length) (xs ++ strs ts) → Grows w0 w' → w.grownBy w' v.ownBlock → K (a.put o.dst (.slice (some ⟨gg, 0, none⟩) (n + ts.length) cap)) w') :
    if Region.wanted o (yielded ops a.tmps) = true then Oper.wp Try.prog o a w K Q else E := by
  obtain ⟨i0, hi, hz0, hz1, hz2⟩ := info_parts info9
  subst hm
  refine step_append_lies w hgd s x 28 ho w0.heap.size 9 i0 (.string ⟨#[]⟩) 1 16 Try.underlying28 hi hz0 hz1 hz2 rfl (by decide) v n xs hs hown ad _ c (strs ts) hx (by rw [strs_length]; omega) hnew ?_ hpos (by unfold maxLen; omega) (by omega) g.size _ rfl (fun gg cap w' h1 h2 _ _ => h _ cap w' h1 (g.grown h2 g.size (fun k hk => (hown.lt k hk).1)) h2)
  intro u hu
  obtain ⟨t, _, rfl⟩ := List.mem_map.1 hu
  rfl
theorem step_app0 {ops : Array Oper} {o : Oper} {a : Act} {w w0 : World} {K : Act → World → Prop} {Q : Exit → Act → World → Prop} {E : Prop} (hgd : o.guard = none) (s x : Operand)
    (ho : o.op = .call { callee := .builtin .append, args := #[s, x], argTypes := #[28, 28] }) {v : Value} (g : Grows w0 w) (hs : a.eval s = v) (hown : w.ownsRow w0.heap.size 9 1 v 0 [])
    {ad : Addr} {m c : Nat} (ts : List (List UInt8)) (hx : a.eval x = .slice (some ad) m c) (hm : m = ts.length) (hnew : ∀ j u, (strs ts)[j]? = some u → w.cell? (ad.add j) = some u) (hpos : 0 < ts.length) (hn : ts.length ≤ 100000)
    (h : ∀ gg cap w', w'.ownsRow w0.heap.size 9 1 (.slice (some ⟨gg, 0, none⟩) ts.length cap) ts.length (strs ts) → Grows w0 w' → w.grownBy w' v.ownBlock → K (a.put o.dst (.slice (some ⟨gg, 0, none⟩) ts.length cap)) w') :
    if Region.wanted o (yielded ops a.tmps) = true then Oper.wp Try.prog o a w K Q else E := by
  refine step_appN hgd s x ho g hs hown ts hx hm hnew hpos (by omega) ?_
  intro gg cap w' h1 h2 h3
  rw [Nat.zero_add] at h1 ⊢
  exact h gg cap w' h1 h2 h3
theorem strs_append (a b : List (List UInt8)) : strs (a ++ b) = strs a ++ strs b := by unfold strs; rw [List.map_append]
theorem full_bits (n : Nat) (h : n < 21) (h1 : 1 ≤ n) : (bits .and .i64 (n : Int) ((n : Int) - 1) == 0) = full n := by
  have e := (bits_nat .i64 32 (by decide) (fun m h0 h1 => IntWalk.i64_in m (by omega)) n (n - 1) (by omega) (by omega)).1
  rw [show (n : Int) - 1 = ((n - 1 : Nat) : Int) by omega, e, ← full_and n h h1]
  generalize n &&& (n - 1) = z
  cases z with
  | zero => rfl
  | succ z => rw [beq_eq_false_iff_ne.2 (by omega), beq_eq_false_iff_ne.2 (by omega)]
theorem news_kept {w w' : World} {b : Nat} {cs : List Value} {row : Option Nat} (h : ∀ j u, cs[j]? = some u → w.cell? ((⟨b, 0, none⟩ : Addr).add j) = some u) (hg : w.grownBy w' row) (hr : row ≠ some b) : ∀ j u, cs[j]? = some u → w'.cell? ((⟨b, 0, none⟩ : Addr).add j) = some u := fun j u hu => by
  have := h j u hu
  rw [Addr.add_mid] at this ⊢
  exact hg.cell this (Ne.symm hr)

set_option linter.unusedSimpArgs false in
set_option maxRecDepth 100000 in
set_option maxHeartbeats 2000000 in
theorem law_grows (v : Value) (l : List (List UInt8)) (s : List UInt8) (b0 : Nat) (w : World) (hv : Row w v (strs l)) (hl : ∀ s ∈ l, (s.length : Int) ≤ 9223372036854775807) (hs : (s.length : Int) ≤ 9223372036854775807) (h0 : b0 < 256) :
    Calls Try.prog 9 #[v, str s, .int .u8 (b0 : Int)] w fun e w' => e = .returned (.bool true) ∧ Grows w w' := by
  have hV := Lib.hid hv
  have hL := Lib.hid hl
  clear hv hl
  go_enter Try.func9, Try.ntmps9
  go_wp2_with fail
  refine (sane _).mono ?_; rintro e w1 ⟨rfl, g⟩
  go_wp2_with fail
  refine (list_any v l _ (hV.out.later g) hL.out).mono ?_; rintro e w2 ⟨v2, rfl, r2, g2⟩
  have gw := g.then g2
  clear g g2 hV hL
  have h20 := listOf_len l
  have hS := listOf_str l
  have HS30 := Lib.hid hS
  clear hS
  generalize listOf l = L at *
  have hform : ∃ a cap, v2 = .slice a L.length cap := by
    obtain ⟨a, cap, h, _⟩ := r2
    exact ⟨a, cap, by rw [h, strs_length]⟩
  obtain ⟨a2, cap2, rfl⟩ := hform
  by_cases hn : L.length = 0
  · have hnn : ((L.length : Int) == 0) = true := by simp [hn]
    clear hn r2
    go_wp2_with fail
    go_ret
    exact ⟨rfl, gw⟩
  · have hnn : ((L.length : Int) == 0) = false := by rw [beq_eq_false_iff_ne]; omega
    have hpos : 0 < L.length := by omega
    have hne : strs L ≠ [] := fun e => by have := congrArg List.length e; rw [strs_length, List.length_nil] at this; omega
    obtain ⟨p, o, rfl, -, hpl, hcell⟩ := r2.lies hne
    have HSrc := Lib.hid (show ∀ W, Grows w2 W → ∀ j u, (strs L)[j]? = some u → W.cell? ((⟨p, o, none⟩ : Addr).add j) = some u from fun W g j u hu => by
      rw [Addr.add_mid]; exact (g.cell hpl).trans (hcell j u hu))
    have HR2 := Lib.hid r2
    clear hne hcell hn r2
    have hm0 : ((b0 : Int)).tmod (L.length : Int) = ((b0 % L.length : Nat) : Int) := by rw [Int.tmod_eq_emod_of_nonneg (by omega)]; rfl
    have hi : b0 % L.length < L.length := Nat.mod_lt _ hpos
    generalize b0 % L.length = i at *
    have hm1 : (if (30 : Int) < (s.length : Int) then (30 : Int) else (s.length : Int)) = ((min s.length 30 : Nat) : Int) := min_if s.length 30
    have hx := extract_take s 30
    have hm2 : (0 : Int) ≤ ((min s.length 30 : Nat) : Int) := by omega
    have hm3 : ((min s.length 30 : Nat) : Int) ≤ (s.length : Int) := by omega
    generalize min s.length 30 = n0 at *
    have g : Grows w2 w2 := Below.refl _ _
    go_wp2_with fail
    refine wp_region_noPanic ?_
    refine wp_region_held_drew (S := fun W => Grows w2 W) (by kernel_rfl) g.drew (fun hHeld => ?_)
    refine wpAnyT_begin [1, 3, 4, 5, 6, 7] (by kernel_rfl) (by kernel_rfl) ?_
    refine wpAnyT_take (oi := ⟨some 30, Op.move (Operand.tmp 0), 28, _, _, none⟩) (v := .slice (some ⟨p, o, none⟩) L.length cap2) rfl (fun _ _ _ h => h) (by rfl) (by assumption) (fun wS hSw => ?_) ?_
    · clear hSw; go_simp
    simp only [Act.put, List.setIfInBounds_toArray, List.set_cons_zero, List.set_cons_succ]
    refine wpAnyT_take (oi := ⟨some 32, Op.move (Operand.tmp 1), 9, _, _, none⟩) (v := .string ⟨s.toArray⟩) rfl (fun _ _ _ h => h) (by rfl) (by assumption) (fun wS hSw => ?_) ?_
    · clear hSw; go_simp
    simp only [Act.put, List.setIfInBounds_toArray, List.set_cons_zero, List.set_cons_succ]
    refine wpAnyT_take (oi := ⟨some 33, Op.move (Operand.tmp 1), 9, _, _, none⟩) (v := .string ⟨s.toArray⟩) rfl (fun _ _ _ h => h) (by rfl) (by assumption) (fun wS hSw => ?_) ?_
    · clear hSw; go_simp
    simp only [Act.put, List.setIfInBounds_toArray, List.set_cons_zero, List.set_cons_succ]
    refine wpAnyT_take (oi := ⟨some 34, Op.call { callee := Callee.builtin Builtin.len, args := #[Operand.tmp 33], argTypes := #[9] }, 3, _, _, none⟩) (v := .int .i64 (s.length : Int)) rfl (fun _ _ _ h => h) (by rfl) (by assumption) (fun wS hSw => ?_) ?_
    · clear hSw; go_simp
    simp only [Act.put, List.setIfInBounds_toArray, List.set_cons_zero, List.set_cons_succ]
    refine wpAnyT_take (oi := ⟨some 35, Op.call { callee := Callee.builtin Builtin.min, args := #[Operand.tmp 34, Operand.const (Value.int IntKind.i64 30)], argTypes := #[3, 3] }, 3, _, _, none⟩) (v := .int .i64 (n0 : Int)) rfl (fun _ _ _ h => h) (by rfl) (by assumption) (fun wS hSw => ?_) ?_
    · clear hSw; go_simp
    simp only [Act.put, List.setIfInBounds_toArray, List.set_cons_zero, List.set_cons_succ]
    refine wpAnyT_take (oi := ⟨some 36, Op.slice 9 (Operand.tmp 32) none (some (Operand.tmp 35)) none, 9, _, _, none⟩) (v := .string ⟨(s.take 30).toArray⟩) rfl (fun _ _ _ h => h) (by rfl) (by assumption) (fun wS hSw => ?_) ?_
    · clear hSw; go_simp
    simp only [Act.put, List.setIfInBounds_toArray, List.set_cons_zero, List.set_cons_succ]
    refine wpAnyT_end ?_
    refine wpAnyH_listed #[false, true, false, true, true, true, true, true, false, false, false] (by kernel_rfl) ?_
    have g := hHeld
    generalize w2.drew = w2d at *
    refine wpAnyH_ready (rs := [0, 8]) (by kernel_rfl) (by simp) ?_
    refine AllReadyH.cons (o := ⟨some 29, Op.buildSlice 28 0 #[], 28, _, _, none⟩) rfl (fun K hK => ?A1) (AllReadyH.cons (o := ⟨some 37, Op.buildSlice 28 1 #[(0, Operand.tmp 36)], 28, _, _, none⟩) rfl (fun K hK => ?A2) AllReadyH.nil)
    case' A1 =>
      go_simp
      have o1 := World.ownsRow_made (base := w2.heap.size) (e := 9) (size := 1) w2d #[] 0 g.size (Nat.zero_le _) rfl
      have b1 : w2d.heap.size < (w2d.alloc (.cells #[] 9)).heap.size := by simp
      have g := g.alloc g.size (.cells #[] 9)
      generalize w2d.heap.size = q1 at *
      generalize w2d.alloc (.cells #[] 9) = w3 at *
      clear hHeld
      refine hK.out _ _ g (fun hHeld => ?_)
      clear hK K
      try simp only [Act.put, List.setIfInBounds_toArray, List.set_cons_zero, List.set_cons_succ]
      refine wpAnyH_ready (rs := [2, 8]) (by kernel_rfl) (by simp) ?_
      refine AllReadyH.cons (o := ⟨some 31, Op.call { callee := Callee.builtin Builtin.append, args := #[Operand.tmp 29, Operand.tmp 30], argTypes := #[28, 28] }, 28, _, _, none⟩) rfl (fun K hK => ?B1) (AllReadyH.cons (o := ⟨some 37, Op.buildSlice 28 1 #[(0, Operand.tmp 36)], 28, _, _, none⟩) rfl (fun K hK => ?B2) AllReadyH.nil)
      case' B1 =>
        refine step_app0 rfl _ _ rfl g rfl o1 L rfl rfl (HSrc.out _ g) hpos (by omega) ?_
        intro q2 cap3 w4 o2 g h4
        clear hHeld
        refine hK.out _ _ g (fun hHeld => ?_)
        clear hK K
        try simp only [Act.put, List.setIfInBounds_toArray, List.set_cons_zero, List.set_cons_succ]
        refine wpAnyH_ready (rs := [8]) (by kernel_rfl) (by simp) ?_
        refine AllReadyH.cons (o := ⟨some 37, Op.buildSlice 28 1 #[(0, Operand.tmp 36)], 28, _, _, none⟩) rfl (fun K hK => ?_) AllReadyH.nil
        go_simp
        have n1 := World.news_of_block (heap_alloc_new w4 (.cells #[.string ⟨(s.take 30).toArray⟩] 9))
        have b8 : w4.heap.size < (w4.alloc (.cells #[.string ⟨(s.take 30).toArray⟩] 9)).heap.size := by simp
        have o2 := owns_later o2 ((Below.refl _ _).alloc (Nat.le_refl _) (.cells #[.string ⟨(s.take 30).toArray⟩] 9))
        have g := g.alloc g.size (.cells #[.string ⟨(s.take 30).toArray⟩] 9)
        generalize w4.heap.size = q8 at *
        generalize w4.alloc (.cells #[.string ⟨(s.take 30).toArray⟩] 9) = w5 at *
        clear hHeld
        refine hK.out _ _ g (fun hHeld => ?_)
        clear hK K
        try simp only [Act.put, List.setIfInBounds_toArray, List.set_cons_zero, List.set_cons_succ]
      case' B2 =>
        go_simp
        have n1 := World.news_of_block (heap_alloc_new w3 (.cells #[.string ⟨(s.take 30).toArray⟩] 9))
        have b8 : w3.heap.size < (w3.alloc (.cells #[.string ⟨(s.take 30).toArray⟩] 9)).heap.size := by simp
        have o1 := owns_later o1 ((Below.refl _ _).alloc (Nat.le_refl _) (.cells #[.string ⟨(s.take 30).toArray⟩] 9))
        have hq8 : q1 ≠ w3.heap.size := by omega
        have g := g.alloc g.size (.cells #[.string ⟨(s.take 30).toArray⟩] 9)
        generalize w3.heap.size = q8 at *
        generalize w3.alloc (.cells #[.string ⟨(s.take 30).toArray⟩] 9) = w4 at *
        clear hHeld
        refine hK.out _ _ g (fun hHeld => ?_)
        clear hK K
        try simp only [Act.put, List.setIfInBounds_toArray, List.set_cons_zero, List.set_cons_succ]
        refine wpAnyH_ready (rs := [2]) (by kernel_rfl) (by simp) ?_
        refine AllReadyH.cons (o := ⟨some 31, Op.call { callee := Callee.builtin Builtin.append, args := #[Operand.tmp 29, Operand.tmp 30], argTypes := #[28, 28] }, 28, _, _, none⟩) rfl (fun K hK => ?_) AllReadyH.nil
        refine step_app0 rfl _ _ rfl g rfl o1 L rfl rfl (HSrc.out _ g) hpos (by omega) ?_
        intro q2 cap3 w5 o2 g h4
        have n1 := news_kept n1 h4 (by intro e; exact hq8 (Option.some.inj e))
        clear hHeld
        refine hK.out _ _ g (fun hHeld => ?_)
        clear hK K
        try simp only [Act.put, List.setIfInBounds_toArray, List.set_cons_zero, List.set_cons_succ]
    case' A2 =>
      go_simp
      have n1 := World.news_of_block (heap_alloc_new w2d (.cells #[.string ⟨(s.take 30).toArray⟩] 9))
      have b8 : w2d.heap.size < (w2d.alloc (.cells #[.string ⟨(s.take 30).toArray⟩] 9)).heap.size := by simp
      have g := g.alloc g.size (.cells #[.string ⟨(s.take 30).toArray⟩] 9)
      generalize w2d.heap.size = q8 at *
      generalize w2d.alloc (.cells #[.string ⟨(s.take 30).toArray⟩] 9) = w3 at *
      clear hHeld
      refine hK.out _ _ g (fun hHeld => ?_)
      clear hK K
      try simp only [Act.put, List.setIfInBounds_toArray, List.set_cons_zero, List.set_cons_succ]
      refine wpAnyH_ready (rs := [0]) (by kernel_rfl) (by simp) ?_
      refine AllReadyH.cons (o := ⟨some 29, Op.buildSlice 28 0 #[], 28, _, _, none⟩) rfl (fun K hK => ?_) AllReadyH.nil
      go_simp
      have o1 := World.ownsRow_made (base := w2.heap.size) (e := 9) (size := 1) w3 #[] 0 g.size (Nat.zero_le _) rfl
      have b1 : w3.heap.size < (w3.alloc (.cells #[] 9)).heap.size := by simp
      have n1 := news_kept n1 (grown_grows ((Below.refl _ w3).alloc (Nat.le_refl _) (.cells #[] 9))) (by simp)
      have hq8 : w3.heap.size ≠ q8 := by omega
      have g := g.alloc g.size (.cells #[] 9)
      generalize w3.heap.size = q1 at *
      generalize w3.alloc (.cells #[] 9) = w4 at *
      clear hHeld
      refine hK.out _ _ g (fun hHeld => ?_)
      clear hK K
      try simp only [Act.put, List.setIfInBounds_toArray, List.set_cons_zero, List.set_cons_succ]
      refine wpAnyH_ready (rs := [2]) (by kernel_rfl) (by simp) ?_
      refine AllReadyH.cons (o := ⟨some 31, Op.call { callee := Callee.builtin Builtin.append, args := #[Operand.tmp 29, Operand.tmp 30], argTypes := #[28, 28] }, 28, _, _, none⟩) rfl (fun K hK => ?_) AllReadyH.nil
      refine step_app0 rfl _ _ rfl g rfl o1 L rfl rfl (HSrc.out _ g) hpos (by omega) ?_
      intro q2 cap3 w5 o2 g h4
      have n1 := news_kept n1 h4 (by intro e; exact hq8 (Option.some.inj e))
      clear hHeld
      refine hK.out _ _ g (fun hHeld => ?_)
      clear hK K
      try simp only [Act.put, List.setIfInBounds_toArray, List.set_cons_zero, List.set_cons_succ]
    all_goals
      refine wpAnyH_ready (rs := [9]) (by kernel_rfl) (by simp) ?_
      refine AllReadyH.cons (o := ⟨some 38, Op.call { callee := Callee.builtin Builtin.append, args := #[Operand.tmp 31, Operand.tmp 37], argTypes := #[28, 28] }, 28, _, _, none⟩) rfl (fun K hK => ?_) AllReadyH.nil
      refine step_appN rfl _ _ rfl g rfl o2 [s.take 30] rfl rfl n1 (by simp) (by simp; omega) ?_
      intro q9 cap9 w9 o9 g h9
      clear hHeld
      refine hK.out _ _ g (fun hHeld => ?_)
      clear hK K
      try simp only [Act.put, List.setIfInBounds_toArray, List.set_cons_zero, List.set_cons_succ]
      refine wpAnyT_begin [10] (by kernel_rfl) (by kernel_rfl) ?_
      refine wpAnyT_take (oi := ⟨some 9, Op.assign (Operand.tmp 38), 28, _, _, none⟩) (v := .slice (some ⟨q9, 0, none⟩) (L.length + [s.take 30].length) cap9) rfl (fun _ _ _ h => h) (by rfl) (by assumption) (fun wS hSw => ?_) ?_
      · clear hSw; go_simp
      simp only [Act.put, List.setIfInBounds_toArray, List.set_cons_zero, List.set_cons_succ]
      refine wpAnyT_end ?_
      refine wpAnyH_done (by kernel_rfl) ?_ _
      refine NoPanic.normal ?_
      have RM := Row.of_owns o9
      rw [← strs_append] at RM
      have ht30 : (s.take 30).length ≤ 30 := by rw [List.length_take]; omega
      clear hm1 hx hm2 hm3 hHeld o2 n1 HSrc
      generalize s.take 30 = t at *
      have HSM := Lib.hid (show ∀ x ∈ L ++ [t], x.length ≤ 1000 from fun x hx => by
        rcases List.mem_append.1 hx with h | h
        · exact Nat.le_trans (HS30.out x h) (by decide)
        · rw [List.mem_singleton.1 h]; omega)
      have HS := Lib.hid (show ∀ x ∈ L, x.length ≤ 1000 from fun x hx => Nat.le_trans (HS30.out x hx) (by decide))
      have hML : (L ++ [t]).length = L.length + 1 := by simp
      have HML := Lib.hid hML
      have KA := Lib.hid (fun W h => prove_yes (.slice (some ⟨p, o, none⟩) L.length cap2) L i W h HS.out (by omega) hi)
      have KB := Lib.hid (fun W h => prove_yes (.slice (some ⟨q9, 0, none⟩) (L.length + [t].length) cap9) (L ++ [t]) i W h HSM.out (by rw [HML.out]; omega) (by rw [HML.out]; omega))
      have HRM := Lib.hid RM
      have hla := prv_length L i
      have hlb := prv_length (L ++ [t]) i
      rw [HML.out, lg_full L.length (by omega) hpos] at hlb
      have HFB := Lib.hid (full_bits L.length (by omega) hpos)
      have hA5 := lg_le L.length
      have HC1 := Lib.hid (fun K hK => cnt_le L t (by omega) i hi K hK)
      have HCF := Lib.hid (fun hf => cnt_full L t (by omega) i hi hf)
      have HDi := Lib.hid (show ∀ k, dif L t i k = ((prv L i)[k]?.getD [] != (prv (L ++ [t]) i)[k]?.getD []) from fun k => rfl)
      generalize lg L.length = A at *
      clear hML RM hm0 o9 h9 h4 hpl
      go_wp2_with fail
      refine (KA.out _ (HR2.out.later g)).mono ?_; rintro e w10 ⟨va, rfl, ra, g4⟩
      have HRM := Lib.hid (HRM.out.later g4)
      have g := g.then g4
      clear g4
      go_wp2_with fail
      refine (KB.out _ HRM.out).mono ?_; rintro e w11 ⟨vb, rfl, rb, g4⟩
      have g := g.then g4
      have ra := ra.later g4
      clear g4 HRM KA KB
      obtain ⟨aa, ca, rfl, hca1, hca2, hra⟩ := ra
      obtain ⟨ab, cb, rfl, hcb1, hcb2, hrb⟩ := rb
      rw [strs_length] at hca1 hcb1
      rw [strs_length, strs_length]
      have HRA := Lib.hid (show strs (prv L i) = [] ∨ ∃ b o, aa = some ⟨b, o, none⟩ ∧ ∀ j u, (strs (prv L i))[j]? = some u → w11.cell? ⟨b, o + j, none⟩ = some u by assumption)
      have HRB := Lib.hid hrb
      clear hra hrb
      generalize prv L i = P at *
      generalize prv (L ++ [t]) i = Q at *
      subst hla
      have hfb := HFB.out
      cases hf0 : full L.length with
      | true =>
        have hf := Lib.hid hf0
        rw [hf0] at hfb
        rw [hf0, if_pos rfl] at hlb
        have hb1 : P.length + 1 ≤ Q.length := by omega
        have hb2 : Q.length ≤ P.length + 1 := by omega
        clear hlb hf0
        go_wp2_with fail
        go_loopw [14, 74] (fun m idx wr => ∃ k : Nat, k ≤ P.length ∧ idx = .int .i64 k ∧ m = .int .i64 (cnt L t i k : Nat) ∧ Grows w2 wr ∧ Grows w11 wr) (fun _ idx _ => P.length - (RowKit.intOf idx).toNat)
        case atStart => exact ⟨0, Nat.zero_le _, rfl, rfl, g, Below.refl _ _⟩
        case round =>
          clear g
          obtain ⟨k, hk, rfl, rfl, g, g11⟩ := hrel
          by_cases hlt : k < P.length
          · have hltQ : k < Q.length := by omega
            rcases HRA.out with h0 | ⟨pa, oa, rfl, ca1⟩
            · rw [show P = [] from List.map_eq_nil_iff.1 h0] at hlt
              simp at hlt
            · rcases HRB.out with h0 | ⟨pb, ob, rfl, cb1⟩
              · rw [show Q = [] from List.map_eq_nil_iff.1 h0] at hltQ
                simp at hltQ
              · have d1 := ca1 k (str P[k]) (by unfold strs; rw [List.getElem?_map, List.getElem?_eq_getElem hlt]; rfl)
                have d2 := cb1 k (str Q[k]) (by unfold strs; rw [List.getElem?_map, List.getElem?_eq_getElem hltQ]; rfl)
                have d1 : wr.cell? ⟨pa, oa + k, none⟩ = some (str P[k]) := (g11.cell (World.block_lt_of_cell? w11 _ d1)).trans d1
                have d2 : wr.cell? ⟨pb, ob + k, none⟩ = some (str Q[k]) := (g11.cell (World.block_lt_of_cell? w11 _ d2)).trans d2
                have hD := HDi.out k
                rw [List.getElem?_eq_getElem hlt, List.getElem?_eq_getElem hltQ] at hD
                have hD : dif L t i k = (P[k] != Q[k]) := hD
                have HCn := Lib.hid (show cnt L t i (k + 1) = cnt L t i k + (if dif L t i k = true then 1 else 0) from rfl)
                have hcb := HC1.out k hk
                clear ca1 cb1
                unfold str at d1 d2
                generalize P[k] = x at *
                generalize Q[k] = y at *
                generalize cnt L t i k = c0 at *
                have gd : Grows w2 wr.drew := g.drew
                have gd11 : Grows w11 wr.drew := g11.drew
                by_cases hxy : x = y
                · subst hxy
                  have HD2 := Lib.hid (show dif L t i k = false by rw [hD]; simp)
                  clear hD
                  go_wp2_with fail
                  go_region_held3 (fun w' => w'.cell? ⟨pa, oa + k, none⟩ = some (.string ⟨x.toArray⟩) ∧ w'.cell? ⟨pb, ob + k, none⟩ = some (.string ⟨x.toArray⟩)) (go_keep) (fail)
                  go_wp2_with fail
                  go_roundw
                  case rel => exact ⟨k + 1, by omega, by go_num, by rw [HCn.out, HD2.out]; rfl, gd, gd11⟩
                  case measure => simp [RowKit.intOf]; omega
                · have m1 : (x == y) = false := by simpa using hxy
                  have m2 : (x != y) = true := by simpa using hxy
                  have HD2 := Lib.hid (show dif L t i k = true by rw [hD]; exact m2)
                  clear hD hxy
                  go_wp2_with fail
                  go_region_held3 (fun w' => w'.cell? ⟨pa, oa + k, none⟩ = some (.string ⟨x.toArray⟩) ∧ w'.cell? ⟨pb, ob + k, none⟩ = some (.string ⟨y.toArray⟩)) (go_keep) (fail)
                  go_wp2_with fail
                  go_roundw
                  case rel => exact ⟨k + 1, by omega, by go_num, by rw [HCn.out, HD2.out]; rfl, gd, gd11⟩
                  case measure => simp [RowKit.intOf]; omega
          · obtain rfl : k = P.length := by omega
            have hc1 := HC1.out P.length (Nat.le_refl _)
            have hcz := HCF.out hf.out
            rw [hcz]
            clear hcz hc1
            go_wp2_with fail
            go_ret
            exact ⟨rfl, gw.then g⟩
      | false =>
        have hf := Lib.hid hf0
        rw [hf0] at hfb
        rw [hf0, if_neg (by decide)] at hlb
        have hb1 : P.length ≤ Q.length := by omega
        have hb2 : Q.length ≤ P.length := by omega
        clear hlb hf0
        go_wp2_with fail
        go_loopw [14, 74] (fun m idx wr => ∃ k : Nat, k ≤ P.length ∧ idx = .int .i64 k ∧ m = .int .i64 (cnt L t i k : Nat) ∧ Grows w2 wr ∧ Grows w11 wr) (fun _ idx _ => P.length - (RowKit.intOf idx).toNat)
        case atStart => exact ⟨0, Nat.zero_le _, rfl, rfl, g, Below.refl _ _⟩
        case round =>
          clear g
          obtain ⟨k, hk, rfl, rfl, g, g11⟩ := hrel
          by_cases hlt : k < P.length
          · have hltQ : k < Q.length := by omega
            rcases HRA.out with h0 | ⟨pa, oa, rfl, ca1⟩
            · rw [show P = [] from List.map_eq_nil_iff.1 h0] at hlt
              simp at hlt
            · rcases HRB.out with h0 | ⟨pb, ob, rfl, cb1⟩
              · rw [show Q = [] from List.map_eq_nil_iff.1 h0] at hltQ
                simp at hltQ
              · have d1 := ca1 k (str P[k]) (by unfold strs; rw [List.getElem?_map, List.getElem?_eq_getElem hlt]; rfl)
                have d2 := cb1 k (str Q[k]) (by unfold strs; rw [List.getElem?_map, List.getElem?_eq_getElem hltQ]; rfl)
                have d1 : wr.cell? ⟨pa, oa + k, none⟩ = some (str P[k]) := (g11.cell (World.block_lt_of_cell? w11 _ d1)).trans d1
                have d2 : wr.cell? ⟨pb, ob + k, none⟩ = some (str Q[k]) := (g11.cell (World.block_lt_of_cell? w11 _ d2)).trans d2
                have hD := HDi.out k
                rw [List.getElem?_eq_getElem hlt, List.getElem?_eq_getElem hltQ] at hD
                have hD : dif L t i k = (P[k] != Q[k]) := hD
                have HCn := Lib.hid (show cnt L t i (k + 1) = cnt L t i k + (if dif L t i k = true then 1 else 0) from rfl)
                have hcb := HC1.out k hk
                clear ca1 cb1
                unfold str at d1 d2
                generalize P[k] = x at *
                generalize Q[k] = y at *
                generalize cnt L t i k = c0 at *
                have gd : Grows w2 wr.drew := g.drew
                have gd11 : Grows w11 wr.drew := g11.drew
                by_cases hxy : x = y
                · subst hxy
                  have HD2 := Lib.hid (show dif L t i k = false by rw [hD]; simp)
                  clear hD
                  go_wp2_with fail
                  go_region_held3 (fun w' => w'.cell? ⟨pa, oa + k, none⟩ = some (.string ⟨x.toArray⟩) ∧ w'.cell? ⟨pb, ob + k, none⟩ = some (.string ⟨x.toArray⟩)) (go_keep) (fail)
                  go_wp2_with fail
                  go_roundw
                  case rel => exact ⟨k + 1, by omega, by go_num, by rw [HCn.out, HD2.out]; rfl, gd, gd11⟩
                  case measure => simp [RowKit.intOf]; omega
                · have m1 : (x == y) = false := by simpa using hxy
                  have m2 : (x != y) = true := by simpa using hxy
                  have HD2 := Lib.hid (show dif L t i k = true by rw [hD]; exact m2)
                  clear hD hxy
                  go_wp2_with fail
                  go_region_held3 (fun w' => w'.cell? ⟨pa, oa + k, none⟩ = some (.string ⟨x.toArray⟩) ∧ w'.cell? ⟨pb, ob + k, none⟩ = some (.string ⟨y.toArray⟩)) (go_keep) (fail)
                  go_wp2_with fail
                  go_roundw
                  case rel => exact ⟨k + 1, by omega, by go_num, by rw [HCn.out, HD2.out]; rfl, gd, gd11⟩
                  case measure => simp [RowKit.intOf]; omega
          · obtain rfl : k = P.length := by omega
            have hc1 := HC1.out P.length (Nat.le_refl _)
            have hb3 : decide (P.length < Q.length) = false := decide_eq_false (by omega)
            rcases (show cnt L t i P.length = 0 ∨ cnt L t i P.length = 1 by omega) with hcz | hcz
            · rw [hcz]
              clear hcz hc1
              go_wp2_with fail
              go_ret
              exact ⟨rfl, gw.then g⟩
            · rw [hcz]
              clear hcz hc1
              go_wp2_with fail
              go_ret
              exact ⟨rfl, gw.then g⟩
end Go.Proofs.Ytmgkbkpfhpkbcaa
