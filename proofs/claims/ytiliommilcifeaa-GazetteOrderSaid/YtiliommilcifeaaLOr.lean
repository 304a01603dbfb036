/- The walk of GazetteOrder. -/
import Derived.Test.YtiliommilcifeaaLNa
namespace Go.Proofs.Ytiliommilcifeaa
open Go.RowKit Go.Lib Go.Sort

theorem lessN_irr (a : List UInt8) : lessN a a = false := by unfold lessN; rw [cmpN_refl]; rfl
theorem lessN_anti {a b : List UInt8} (h : a ≠ b) : lessN b a = !lessN a b := by
  unfold lessN
  rw [cmpN_neg a b]
  have : cmpN a b ≠ 0 := fun q => h (cmpN_zero q)
  by_cases h1 : cmpN a b < 0
  · rw [decide_eq_true h1, decide_eq_false (by omega)]; rfl
  · rw [decide_eq_false h1, decide_eq_true (by omega)]; rfl
theorem lessN_trans {a b c : List UInt8} (h : lessN a b = true) (g : lessN b c = true) : lessN a c = true := by
  unfold lessN at *
  rw [decide_eq_true_eq] at *
  exact cmpN_trans h g
theorem lessN_same {a b : List UInt8} (h : fold a = fold b) : lessN a b = Op.bytesLess a b := by
  unfold lessN cmpN
  rw [if_pos h, bytesLess_eq]
theorem Calls.after {w : World} {P : Program} {f : Nat} {args : Array Value} {E : Ending} (h : ∀ wx, Calls P f args wx fun e w' => e = E ∧ Grows wx w') : ∀ wx, Grows w wx → Calls P f args wx fun e w' => e = E ∧ Grows w w' :=
  fun wx g => (h wx).mono fun _ _ ⟨h1, h2⟩ => ⟨h1, g.then h2⟩
set_option maxRecDepth 100000 in
set_option maxHeartbeats 16000000 in
theorem order_any (s t u : List UInt8) (w : World) (hs : (s.length : Int) ≤ 9223372036854775807) (ht : (t.length : Int) ≤ 9223372036854775807) (hu : (u.length : Int) ≤ 9223372036854775807) :
    Calls Try.prog 5 #[.agg #[str s, str t, str u]] w fun e w' => e = .returned (.bool true) ∧ Grows w w' := by
  have hH : Has w [(w.heap.size, [str s, str t, str u])] (w.alloc (.cells #[str s, str t, str u] 48)) := has1 [str s, str t, str u] 48
  have HA := Lib.hid (fun w => cut_any s hs w)
  have HB := Lib.hid (fun w => cut_any t ht w)
  have HC := Lib.hid (fun w => cut_any u hu w)
  have fa := fits_cut s
  have fb := fits_cut t
  have fc := fits_cut u
  generalize s.take 40 = a at *
  generalize t.take 40 = b at *
  generalize u.take 40 = c at *
  have K9 := Lib.hid (Calls.after (w := w) sane_any)
  have Kaa := Lib.hid (Calls.after (w := w) (lessN_irr a ▸ less_any a a fa))
  have Kab := Lib.hid (Calls.after (w := w) (less_any a b fa))
  have Kba := Lib.hid (Calls.after (w := w) (less_any b a fb))
  have Kbc := Lib.hid (Calls.after (w := w) (less_any b c fb))
  have Kac := Lib.hid (Calls.after (w := w) (less_any a c fa))
  have Kfa := Lib.hid (Calls.after (w := w) (fold_any a fa))
  have Kfb := Lib.hid (Calls.after (w := w) (fold_any b fb))
  have Kff := Lib.hid (Calls.after (w := w) (fold_fold a ▸ fold_any (fold a) (fits_fold fa)))
  have HL := Lib.hid (fold_length a)
  clear fa fb fc hs ht hu
  have c0 := hH.fact (.head _) (i := 0) rfl
  have c1 := hH.fact (.head _) (i := 1) rfl
  have c2 := hH.fact (.head _) (i := 2) rfl
  simp only [] at c0 c1 c2
  unfold str at *
  go_enter Try.func5, Try.ntmps5
  go_upto_region 1 with fail
  have G1 : Grows w (w.alloc (.cells #[.string ⟨s.toArray⟩, .string ⟨t.toArray⟩, .string ⟨u.toArray⟩] 48)) := (Below.refl _ _).alloc (Nat.le_refl _) _
  generalize hw1 : w.alloc _ = w1 at *
  go_upto_region 2 with (first | (go_at_call 9; refine (sane_any _).mono ?_; rintro e w2 ⟨rfl, g2⟩))
  have c0 := (hH.later g2).fact (.head _) (i := 0) rfl
  have c1 := (hH.later g2).fact (.head _) (i := 1) rfl
  have c2 := (hH.later g2).fact (.head _) (i := 2) rfl
  simp only [] at c0 c1 c2
  have G2 : Grows w w2 := G1.then g2
  have K1 := Lib.hid (fun (d : Nat) => show Calls Try.prog 10 #[.string ⟨s.toArray⟩] (w2.drewN d) (fun e w' => e = .returned (.string ⟨a.toArray⟩) ∧ w' = w2.drewN d) from (HA.out _).mono fun _ _ ⟨h1, h2⟩ => ⟨h1, h2.symm⟩)
  have K2 := Lib.hid (fun (d : Nat) => show Calls Try.prog 10 #[.string ⟨t.toArray⟩] (w2.drewN d) (fun e w' => e = .returned (.string ⟨b.toArray⟩) ∧ w' = w2.drewN d) from (HB.out _).mono fun _ _ ⟨h1, h2⟩ => ⟨h1, h2.symm⟩)
  have K3 := Lib.hid (fun (d : Nat) => show Calls Try.prog 10 #[.string ⟨u.toArray⟩] (w2.drewN d) (fun e w' => e = .returned (.string ⟨c.toArray⟩) ∧ w' = w2.drewN d) from (HC.out _).mono fun _ _ ⟨h1, h2⟩ => ⟨h1, h2.symm⟩)
  clear HA HB HC hH hw1 G1 g2
  go_quiet ((first | (go_at_call 10; with_reducible exact Calls.quiet_of_same (K1.out _)) | (go_at_call 10; with_reducible exact Calls.quiet_of_same (K2.out _)) | (go_at_call 10; with_reducible exact Calls.quiet_of_same (K3.out _))))
  have G3 : Grows w (w2.drewN nq) := G2.then (below_drewN (Below.refl _ _) nq)
  generalize w2.drewN nq = w3 at *
  clear K1 K2 K3 G2 c0 c1 c2
  have HLz : ((fold a).length : Int) = a.length := by have := HL.out; omega
  by_cases hab : a = b
  · subst hab
    rw [lessN_irr] at Kab Kba
    generalize fold a = f at *
    go_wp2_with (first
        | (go_at_call 17; with_reducible refine (Kaa.out _ (by assumption)).mono ?_; rintro e w' ⟨rfl, g⟩)
        | (go_at_call 17; with_reducible refine (Kab.out _ (by assumption)).mono ?_; rintro e w' ⟨rfl, g⟩)
        | (go_at_call 17; with_reducible refine (Kba.out _ (by assumption)).mono ?_; rintro e w' ⟨rfl, g⟩)
        | (go_at_call 17; with_reducible refine (Kbc.out _ (by assumption)).mono ?_; rintro e w' ⟨rfl, g⟩)
        | (go_at_call 17; with_reducible refine (Kac.out _ (by assumption)).mono ?_; rintro e w' ⟨rfl, g⟩)
        | (go_at_call 15; with_reducible refine (Kfa.out _ (by assumption)).mono ?_; rintro e w' ⟨rfl, g⟩)
        | (go_at_call 15; with_reducible refine (Kfb.out _ (by assumption)).mono ?_; rintro e w' ⟨rfl, g⟩)
        | (go_at_call 15; with_reducible refine (Kff.out _ (by assumption)).mono ?_; rintro e w' ⟨rfl, g⟩))
    go_ret
    exact ⟨rfl, by assumption⟩
  · have z0 : (a == b) = false := by simpa using hab
    rw [lessN_anti hab] at Kba
    have HT := Lib.hid (@lessN_trans a b c)
    have HS := Lib.hid (@lessN_same a b)
    generalize lessN a b = p at *
    generalize lessN b c = q at *
    generalize lessN a c = r at *
    by_cases hf : fold a = fold b
    · have z1 : (fold a == fold b) = true := by rw [hf]; simp
      have z2 : Op.bytesLess a b = p := (HS.out hf).symm
      generalize fold a = f at *
      generalize fold b = g0 at *
      clear hf hab HS
      cases p
      · go_wp2_with (first
            | (go_at_call 17; with_reducible refine (Kaa.out _ (by assumption)).mono ?_; rintro e w' ⟨rfl, g⟩)
            | (go_at_call 17; with_reducible refine (Kab.out _ (by assumption)).mono ?_; rintro e w' ⟨rfl, g⟩)
            | (go_at_call 17; with_reducible refine (Kba.out _ (by assumption)).mono ?_; rintro e w' ⟨rfl, g⟩)
            | (go_at_call 17; with_reducible refine (Kbc.out _ (by assumption)).mono ?_; rintro e w' ⟨rfl, g⟩)
            | (go_at_call 17; with_reducible refine (Kac.out _ (by assumption)).mono ?_; rintro e w' ⟨rfl, g⟩)
            | (go_at_call 15; with_reducible refine (Kfa.out _ (by assumption)).mono ?_; rintro e w' ⟨rfl, g⟩)
            | (go_at_call 15; with_reducible refine (Kfb.out _ (by assumption)).mono ?_; rintro e w' ⟨rfl, g⟩)
            | (go_at_call 15; with_reducible refine (Kff.out _ (by assumption)).mono ?_; rintro e w' ⟨rfl, g⟩))
        go_ret
        exact ⟨rfl, by assumption⟩
      · cases q
        · go_wp2_with (first
              | (go_at_call 17; with_reducible refine (Kaa.out _ (by assumption)).mono ?_; rintro e w' ⟨rfl, g⟩)
              | (go_at_call 17; with_reducible refine (Kab.out _ (by assumption)).mono ?_; rintro e w' ⟨rfl, g⟩)
              | (go_at_call 17; with_reducible refine (Kba.out _ (by assumption)).mono ?_; rintro e w' ⟨rfl, g⟩)
              | (go_at_call 17; with_reducible refine (Kbc.out _ (by assumption)).mono ?_; rintro e w' ⟨rfl, g⟩)
              | (go_at_call 17; with_reducible refine (Kac.out _ (by assumption)).mono ?_; rintro e w' ⟨rfl, g⟩)
              | (go_at_call 15; with_reducible refine (Kfa.out _ (by assumption)).mono ?_; rintro e w' ⟨rfl, g⟩)
              | (go_at_call 15; with_reducible refine (Kfb.out _ (by assumption)).mono ?_; rintro e w' ⟨rfl, g⟩)
              | (go_at_call 15; with_reducible refine (Kff.out _ (by assumption)).mono ?_; rintro e w' ⟨rfl, g⟩))
          go_ret
          exact ⟨rfl, by assumption⟩
        · obtain rfl := HT.out rfl rfl
          clear HT
          go_wp2_with (first
              | (go_at_call 17; with_reducible refine (Kaa.out _ (by assumption)).mono ?_; rintro e w' ⟨rfl, g⟩)
              | (go_at_call 17; with_reducible refine (Kab.out _ (by assumption)).mono ?_; rintro e w' ⟨rfl, g⟩)
              | (go_at_call 17; with_reducible refine (Kba.out _ (by assumption)).mono ?_; rintro e w' ⟨rfl, g⟩)
              | (go_at_call 17; with_reducible refine (Kbc.out _ (by assumption)).mono ?_; rintro e w' ⟨rfl, g⟩)
              | (go_at_call 17; with_reducible refine (Kac.out _ (by assumption)).mono ?_; rintro e w' ⟨rfl, g⟩)
              | (go_at_call 15; with_reducible refine (Kfa.out _ (by assumption)).mono ?_; rintro e w' ⟨rfl, g⟩)
              | (go_at_call 15; with_reducible refine (Kfb.out _ (by assumption)).mono ?_; rintro e w' ⟨rfl, g⟩)
              | (go_at_call 15; with_reducible refine (Kff.out _ (by assumption)).mono ?_; rintro e w' ⟨rfl, g⟩))
          go_ret
          exact ⟨rfl, by assumption⟩
    · have z1 : (fold a == fold b) = false := by simpa using hf
      generalize fold a = f at *
      generalize fold b = g0 at *
      clear hf hab HS
      cases p
      · go_wp2_with (first
            | (go_at_call 17; with_reducible refine (Kaa.out _ (by assumption)).mono ?_; rintro e w' ⟨rfl, g⟩)
            | (go_at_call 17; with_reducible refine (Kab.out _ (by assumption)).mono ?_; rintro e w' ⟨rfl, g⟩)
            | (go_at_call 17; with_reducible refine (Kba.out _ (by assumption)).mono ?_; rintro e w' ⟨rfl, g⟩)
            | (go_at_call 17; with_reducible refine (Kbc.out _ (by assumption)).mono ?_; rintro e w' ⟨rfl, g⟩)
            | (go_at_call 17; with_reducible refine (Kac.out _ (by assumption)).mono ?_; rintro e w' ⟨rfl, g⟩)
            | (go_at_call 15; with_reducible refine (Kfa.out _ (by assumption)).mono ?_; rintro e w' ⟨rfl, g⟩)
            | (go_at_call 15; with_reducible refine (Kfb.out _ (by assumption)).mono ?_; rintro e w' ⟨rfl, g⟩)
            | (go_at_call 15; with_reducible refine (Kff.out _ (by assumption)).mono ?_; rintro e w' ⟨rfl, g⟩))
        go_ret
        exact ⟨rfl, by assumption⟩
      · cases q
        · go_wp2_with (first
              | (go_at_call 17; with_reducible refine (Kaa.out _ (by assumption)).mono ?_; rintro e w' ⟨rfl, g⟩)
              | (go_at_call 17; with_reducible refine (Kab.out _ (by assumption)).mono ?_; rintro e w' ⟨rfl, g⟩)
              | (go_at_call 17; with_reducible refine (Kba.out _ (by assumption)).mono ?_; rintro e w' ⟨rfl, g⟩)
              | (go_at_call 17; with_reducible refine (Kbc.out _ (by assumption)).mono ?_; rintro e w' ⟨rfl, g⟩)
              | (go_at_call 17; with_reducible refine (Kac.out _ (by assumption)).mono ?_; rintro e w' ⟨rfl, g⟩)
              | (go_at_call 15; with_reducible refine (Kfa.out _ (by assumption)).mono ?_; rintro e w' ⟨rfl, g⟩)
              | (go_at_call 15; with_reducible refine (Kfb.out _ (by assumption)).mono ?_; rintro e w' ⟨rfl, g⟩)
              | (go_at_call 15; with_reducible refine (Kff.out _ (by assumption)).mono ?_; rintro e w' ⟨rfl, g⟩))
          go_ret
          exact ⟨rfl, by assumption⟩
        · obtain rfl := HT.out rfl rfl
          clear HT
          go_wp2_with (first
              | (go_at_call 17; with_reducible refine (Kaa.out _ (by assumption)).mono ?_; rintro e w' ⟨rfl, g⟩)
              | (go_at_call 17; with_reducible refine (Kab.out _ (by assumption)).mono ?_; rintro e w' ⟨rfl, g⟩)
              | (go_at_call 17; with_reducible refine (Kba.out _ (by assumption)).mono ?_; rintro e w' ⟨rfl, g⟩)
              | (go_at_call 17; with_reducible refine (Kbc.out _ (by assumption)).mono ?_; rintro e w' ⟨rfl, g⟩)
              | (go_at_call 17; with_reducible refine (Kac.out _ (by assumption)).mono ?_; rintro e w' ⟨rfl, g⟩)
              | (go_at_call 15; with_reducible refine (Kfa.out _ (by assumption)).mono ?_; rintro e w' ⟨rfl, g⟩)
              | (go_at_call 15; with_reducible refine (Kfb.out _ (by assumption)).mono ?_; rintro e w' ⟨rfl, g⟩)
              | (go_at_call 15; with_reducible refine (Kff.out _ (by assumption)).mono ?_; rintro e w' ⟨rfl, g⟩))
          go_ret
          exact ⟨rfl, by assumption⟩

end Go.Proofs.Ytiliommilcifeaa
