/- The root and the proofs of the reference's tree. -/
import Derived.Test.YtmgkbkpfhpkbcaaRAbove
namespace Go.Proofs.Ytmgkbkpfhpkbcaa
open Go.RowKit Go.Lib

attribute [local go_sem] str

theorem Row.lenOf {w : World} {v : Value} {xs : List Value} (h : Row w v xs) : lenOf v = xs.length := by
  obtain ⟨a, cap, rfl, _⟩ := h
  rfl
theorem lev_more {l : List (List UInt8)} (h : l.length ≤ 32) {k : Nat} (hk : k ≤ lg l.length) (h1 : 1 < (lev l k).length) : k < lg l.length := by
  rcases Nat.lt_or_ge k (lg l.length) with h2 | h2
  · exact h2
  · exfalso
    have : k = lg l.length := by omega
    subst this
    rw [lev_pow l h _ (Nat.le_refl _), Nat.sub_self] at h1
    simp at h1
theorem lev_top {l : List (List UInt8)} (h : l.length ≤ 32) {k : Nat} (hk : k ≤ lg l.length) (h1 : ¬ 1 < (lev l k).length) : k = lg l.length := by
  rcases Nat.lt_or_ge k (lg l.length) with h2 | h2
  · exfalso
    rw [lev_pow l h _ hk] at h1
    obtain ⟨m, hm⟩ : ∃ m, lg l.length - k = m + 1 := ⟨lg l.length - k - 1, by omega⟩
    rw [hm, Nat.pow_succ] at h1
    have := Nat.pow_pos (n := m) (show 0 < 2 by decide)
    omega
  · omega
theorem lev_le32 {l : List (List UInt8)} (h : l.length ≤ 32) (k : Nat) : (lev l k).length ≤ 32 := by
  rw [lev_length l h]
  exact Nat.le_trans (Nat.div_le_self _ _) (wd_le _)
theorem lev_pos {l : List (List UInt8)} (h : l.length ≤ 32) {k : Nat} (hk : k ≤ lg l.length) : 0 < (lev l k).length := by
  rw [lev_pow l h k hk]; exact Nat.pow_pos (by decide)

set_option maxHeartbeats 1000000 in
theorem rroot_any (v : Value) (l : List (List UInt8)) (w : World) (hv : Row w v (strs l)) (hl : ∀ s ∈ l, s.length ≤ 1000) (h32 : l.length ≤ 32) :
    Calls Try.prog 26 #[v] w fun e w' => e = .returned (str (rootL l)) ∧ Grows w w' := by
  go_enter Try.func26, Try.ntmps26
  go_wp2_with fail
  refine (rleaves_any v l _ hv hl h32).mono ?_
  rintro e w1 ⟨v', rfl, r1, g1⟩
  go_wp2_with fail
  go_loopw [3] (fun s wr => ∃ k : Nat, k ≤ lg l.length ∧ Row wr s (strs (lev l k)) ∧ Grows w wr) (fun s _ => lenOf s)
  case atStart => exact ⟨0, Nat.zero_le _, r1, g1⟩
  case round =>
    clear r1 g1
    obtain ⟨k, hk, r, g⟩ := hrel
    have hR := Lib.hid r
    have hlen := r.lenOf
    rw [strs_length] at hlen
    obtain ⟨a, cap, hf, hcap, hcap2, hrow⟩ := r
    rw [strs_length] at hf hcap
    subst hf
    by_cases h1 : 1 < (lev l k).length
    · have hk2 := lev_more h32 hk h1
      have H8 := Lib.hid (all8 l k)
      have H32 := Lib.hid (lev_le32 h32 k)
      have HN := Lib.hid (show lev l (k + 1) = upL (lev l k) from rfl)
      have HLen := Lib.hid (show (lev l (k + 1)).length < (lev l k).length by rw [HN.out, upL_length]; omega)
      clear hrow hlen
      generalize lev l k = ds at *
      go_wp2_with fail
      refine (rabove_any _ ds _ hR.out H8.out H32.out).mono ?_
      rintro e w2 ⟨v2, rfl, r2, g2⟩
      rw [← HN.out] at r2
      have g3 := g.then g2
      have hl2 := r2.lenOf
      rw [strs_length] at hl2
      have HL2 := Lib.hid hl2
      clear hl2
      clear g g2 hR
      go_wp2_with fail
      go_roundw
      case rel => exact ⟨k + 1, by omega, r2, g3⟩
      case measure => rw [HL2.out]; exact HLen.out
    · have hk2 := lev_top h32 hk h1
      subst hk2
      have hp := lev_pos h32 (Nat.le_refl (lg l.length))
      rcases hrow with h0 | ⟨b, o, rfl, hcell⟩
      · rw [show lev l (lg l.length) = [] from List.map_eq_nil_iff.1 h0] at hp
        simp at hp
      · have hcell0 := hcell 0 (str (rootL l)) (by
          unfold rootL strs
          rw [List.getElem?_map, List.getElem?_eq_getElem hp]; rfl)
        clear hcell hR hlen
        generalize (lev l (lg l.length)).length = N at *
        generalize hRR : rootL l = R at *
        have HRR := Lib.hid hRR
        clear hRR
        unfold str at hcell0
        rw [Nat.add_zero] at hcell0
        go_wp2_with fail
        go_ret
        exact ⟨by rw [HRR.out]; rfl, g⟩

set_option maxHeartbeats 400000 in
theorem nb_any (i : Nat) (w : World) (h : i ≤ 1099511627776) :
    Calls Try.prog 39 #[.int .i64 (i : Int)] w fun e w' => e = .returned (.int .i64 (nb i : Nat)) ∧ w = w' := by
  by_cases he : i % 2 = 0
  · have h1 : ((i : Int) % 2 == 0) = true := by simp; omega
    have hN := Lib.hid (show nb i = i + 1 from if_pos he)
    clear he
    go_enter Try.func39, Try.ntmps39
    go_wp2_with fail
    go_ret
    exact ⟨ret_v (i64v (by rw [hN.out]; rfl)), rfl⟩
  · have h1 : ((i : Int) % 2 == 0) = false := by simp; omega
    have hN := Lib.hid (show nb i = i - 1 from if_neg he)
    have hp : 1 ≤ i := by omega
    clear he
    go_enter Try.func39, Try.ntmps39
    go_wp2_with fail
    go_ret
    exact ⟨ret_v (i64v (by rw [hN.out]; omega)), rfl⟩

/-! ### Prove -/
def prvTo (l : List (List UInt8)) (i k : Nat) : List (List UInt8) := (List.range k).map fun k => (lev l k)[nb (i / 2 ^ k)]?.getD []
theorem prvTo_snoc (l : List (List UInt8)) (i k : Nat) : strs (prvTo l i (k + 1)) = strs (prvTo l i k) ++ [str ((lev l k)[nb (i / 2 ^ k)]?.getD [])] := by
  unfold prvTo
  rw [List.range_succ, List.map_append]
  unfold strs
  rw [List.map_append]
  rfl
theorem nb_lt {l : List (List UInt8)} (h32 : l.length ≤ 32) {i : Nat} (hi : i < l.length) {k : Nat} (hk : k < lg l.length) : nb (i / 2 ^ k) < (lev l k).length := by
  have hlt : i < 2 ^ lg l.length := by rw [← wd_lg]; have := le_wd h32; omega
  rw [lev_pow l h32 k (by omega)]
  have := div_lt hlt (show k ≤ lg l.length by omega)
  obtain ⟨m, hm⟩ : ∃ m, lg l.length - k = m + 1 := ⟨lg l.length - k - 1, by omega⟩
  rw [hm] at this ⊢
  exact nb_pow this

/-- A string is appended to a slice of the call's own; whatever is apart from it stays. -/
theorem app9' {ops : Array Oper} {rest : List Oper} {o : Oper} {a : Act} {w w0 : World} {Q : Exit → Act → World → Prop} (hgd : o.guard = none) (s x : Operand)
    (ho : o.op = .call { callee := .builtin .append, args := #[s, x], argTypes := #[28, 28] }) {v : Value} {n : Nat} {xs : List Value} (g : Grows w0 w) (hs : a.eval s = v) (hown : w.ownsRow w0.heap.size 9 1 v n xs)
    {b : Nat} (t : List UInt8) (hx : a.eval x = .slice (some ⟨b, 0, none⟩) 1 1) (hnew : w.cell? ⟨b, 0, none⟩ = some (.string ⟨t.toArray⟩)) (hn : n ≤ 100000)
    (h : ∀ v' w', w'.ownsRow w0.heap.size 9 1 v' (n + 1) (xs ++ [str t]) → Grows w0 w' → w.grownBy w' v.ownBlock → wpList Try.prog ops Q rest (a.put o.dst v') w') : wpList Try.prog ops Q (o :: rest) a w := by
  obtain ⟨i0, hi, hz0, hz1, hz2⟩ := info_parts info9
  refine wpList_append_own w hgd s x 28 ho w0.heap.size 9 i0 (.string ⟨#[]⟩) 1 16 Try.underlying28 hi hz0 hz1 hz2 rfl (by decide) v n xs hs hown ⟨b, 0, none⟩ 1 1 [str t] hx rfl ?_ ?_ (by unfold maxLen; omega) (by omega) g.size (fun v' w' h1 h2 _ => h v' w' h1 (g.grown h2 g.size (fun k hk => (hown.lt k hk).1)) h2)
  · intro j u hj
    match j, hj with
    | 0, hj => simp at hj; subst hj; rw [Addr.add_mid]; exact hnew
  · intro u hu
    simp at hu
    subst hu
    rfl

theorem ownsRow_down {W : World} {base base' : Nat} {e : TypeId} {size : Nat} {v : Value} {k : Nat} {xs : List Value} (h : W.ownsRow base e size v k xs) (hb : base' ≤ base) : W.ownsRow base' e size v k xs := by
  refine ⟨h.1, ?_⟩
  rcases h.2 with hn | ⟨g, cap, cur, hv, hbg, rest⟩
  · exact .inl hn
  · exact .inr ⟨g, cap, cur, hv, Nat.le_trans hb hbg, rest⟩

/-- Two slices that share no block. -/
def Apart (u v : Value) : Prop := ∀ b, u.ownBlock = some b → v.ownBlock ≠ some b
theorem Apart.or {u v : Value} (h : Apart u v) : v.ownBlock = none ∨ v.ownBlock ≠ u.ownBlock := by
  cases hu : u.ownBlock with
  | none =>
    cases hv : v.ownBlock with
    | none => exact .inl rfl
    | some c => exact .inr (by simp)
  | some c => exact .inr (fun e => h c hu e)

set_option maxHeartbeats 1000000 in
theorem rprove_yes (v : Value) (l : List (List UInt8)) (i : Nat) (w : World) (hv : Row w v (strs l)) (hl : ∀ s ∈ l, s.length ≤ 1000) (h32 : l.length ≤ 32) (hi : i < l.length) :
    Calls Try.prog 24 #[v, .int .i64 (i : Int)] w fun e w' => ∃ v', e = .returned (.tuple #[v', .bool true]) ∧ Row w' v' (strs (prv l i)) ∧ Grows w w' := by
  have hform : ∃ a cap, v = .slice a l.length cap := by
    obtain ⟨a, cap, h, _⟩ := hv
    exact ⟨a, cap, by rw [h, strs_length]⟩
  obtain ⟨a, cap, rfl⟩ := hform
  have hi2 : (i : Int) < (l.length : Int) := by omega
  have hi3 : ¬ (i : Int) < 0 := by omega
  have o0 : w.ownsRow w.heap.size 9 1 (.slice none 0 0) 0 (strs (prvTo l i 0)) := World.ownsRow_nil _ _ _ _
  go_enter Try.func24, Try.ntmps24
  go_wp2_with fail
  refine (rleaves_own _ l _ hv hl h32).mono ?_
  rintro e w1 ⟨v', n, rfl, r1, g1⟩
  have o0 := owns_later o0 g1
  go_wp2_with fail
  go_loopw [1, 6, 7] (fun c s t wr => ∃ k : Nat, k ≤ lg l.length ∧ c = .int .i64 (i / 2 ^ k : Nat) ∧ wr.ownsRow w.heap.size 9 1 s k (strs (prvTo l i k)) ∧ (∃ m, wr.ownsRow w.heap.size 9 1 t m (strs (lev l k))) ∧ Apart s t ∧ Grows w wr) (fun _ _ t _ => lenOf t)
  case atStart => exact ⟨0, Nat.zero_le _, by simp, o0, ⟨_, r1⟩, fun b hb => by simp [Value.ownBlock] at hb, g1⟩
  case round =>
    clear r1 g1 o0
    obtain ⟨k, hk, rfl, o, ⟨m, r⟩, ap, g⟩ := hrel
    have hm : (strs (lev l k)).length = m := by have := r.1; omega
    rw [strs_length] at hm
    subst hm
    have hR := Row.of_owns r
    obtain ⟨so, scap, rfl⟩ := owns_form o
    obtain ⟨lo, tcap, rfl⟩ := owns_form r
    by_cases h1 : 1 < (lev l k).length
    · have hk2 := lev_more h32 hk h1
      have hnb := nb_lt h32 hi hk2
      have hk5 : k ≤ 100000 := by have := lg_le l.length; omega
      have H8 := Lib.hid (all8 l k)
      have H32 := Lib.hid (lev_le32 h32 k)
      have HN := Lib.hid (show lev l (k + 1) = upL (lev l k) from rfl)
      have HLen := Lib.hid (show (lev l (k + 1)).length < (lev l k).length by rw [HN.out, upL_length]; omega)
      have HS := Lib.hid (prvTo_snoc l i k)
      have HD := Lib.hid (div_succ i k)
      have HIb := Lib.hid (show i / 2 ^ k ≤ 1099511627776 by have := Nat.div_le_self i (2 ^ k); omega)
      obtain ⟨a', cap', hf, hcap, hcap2, hrow⟩ := hR
      have hR := Lib.hid (Row.of_owns r)
      rw [strs_length] at hf hcap
      injection hf with e1 e2 e3
      subst e1 e3
      clear e2
      rcases hrow with h0 | ⟨b, o', rfl, hcell⟩
      · rw [show lev l k = [] from List.map_eq_nil_iff.1 h0] at h1
        simp at h1
      · have hcell0 := hcell (nb (i / 2 ^ k)) (str ((lev l k)[nb (i / 2 ^ k)]?.getD [])) (by
          unfold strs
          rw [List.getElem?_map, List.getElem?_eq_getElem hnb]; rfl)
        clear hcell
        unfold str at hcell0
        generalize hX : (lev l k)[nb (i / 2 ^ k)]?.getD [] = X at *
        clear hX
        generalize lev l k = ds at *
        generalize i / 2 ^ k = I at *
        generalize strs (prvTo l i k) = P0 at *
        go_wp2_with fail
        refine (nb_any I _ HIb.out).mono ?_
        rintro e w2 ⟨rfl, rfl⟩
        generalize nb I = J at *
        have hnew := World.cell?_alloc_new wr #[.string ⟨X.toArray⟩] 9 0
        go_wp2_with (at_builtin; refine app9' rfl _ _ rfl (g.alloc g.size _) rfl (owns_later o ((Below.refl _ _).alloc (Nat.le_refl _) _)) X rfl hnew hk5 ?_; intro v4 w4 o4 b4 h4)
        have r4 := (owns_later r ((Below.refl _ _).alloc (Nat.le_refl _) _)).kept h4 ap.or
        have hlt4 := fun c hc => (o4.lt c hc).2
        clear hR o r hnew hcell0 g h4 ap
        obtain ⟨so4, scap4, rfl⟩ := owns_form o4
        go_wp2_with fail
        refine (rabove_own _ ds _ (Row.of_owns r4) H8.out H32.out).mono ?_
        rintro e w5 ⟨v5, m5, rfl, r5, g5⟩
        have o5 := owns_later o4 g5
        have b5 := b4.then g5
        have r6 : w5.ownsRow w.heap.size 9 1 v5 m5 (strs (upL ds)) := ownsRow_down r5 b4.size
        have ap5 : Apart (.slice so4 (k + 1) scap4) v5 := fun c hc hc' => by
          have h1 := hlt4 c hc
          have h2 := (r5.lt c hc').1
          omega
        have hl5 := (Row.of_owns r5).lenOf
        rw [strs_length, ← HN.out] at hl5
        have HL5 := Lib.hid hl5
        rw [← HN.out] at r6
        clear o4 b4 r4 r5 g5 hl5 hlt4
        go_wp2_with fail
        go_roundw
        case rel => exact ⟨k + 1, by omega, i64v ((half I HIb.out).trans (by rw [HD.out])), by rw [HS.out]; exact o5, ⟨_, r6⟩, ap5, b5⟩
        case measure => rw [HL5.out]; exact HLen.out
    · have hk2 := lev_top h32 hk h1
      subst hk2
      have HP := Lib.hid (show prv l i = prvTo l i (lg l.length) from rfl)
      clear hR r ap
      generalize (lev l (lg l.length)).length = N at *
      go_wp2_with fail
      go_ret2
      exact ⟨_, rfl, by rw [HP.out]; exact Row.of_owns o, g⟩

end Go.Proofs.Ytmgkbkpfhpkbcaa
