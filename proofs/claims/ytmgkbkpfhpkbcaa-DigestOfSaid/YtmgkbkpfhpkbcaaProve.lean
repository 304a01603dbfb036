/- digest.Prove. -/
import Derived.Test.YtmgkbkpfhpkbcaaVar
namespace Go.Proofs.Ytmgkbkpfhpkbcaa
open Go.RowKit Go.Lib

section
variable {P : Program} {ops : Array Oper} {Q : Exit → Act → World → Prop} {l n : Nat}
/-- A region that goes on, whatever the post says of other exits. -/
def Calm (Q : Exit → Act → World → Prop) : Exit → Act → World → Prop
  | .normal, a, w => Q .normal a w
  | _, _, _ => False
theorem Calm.imp : ∀ (e : Exit) (a : Act) (w : World), Calm Q e a w → Q e a w := fun e a w h => by
  cases e <;> first | exact h | exact (h : False).elim
theorem Calm.normal {a : Act} {w : World} (h : Q .normal a w) : Calm Q .normal a w := h
theorem region_calm {S : World → Prop} {id : Nat} {a : Act} {w : World} (hm : P.follows .mixedOrders = true) (hd : ∀ (i : Nat) (o : Oper), ops[i]? = some o → ∀ c, o.op ≠ .defer c) (hS : S w.drew)
    (h : S w.drew → wpAnyH P .any ops (Calm Q) S ops.size (Array.replicate ops.size false) a w.drew) : (Code.region id ops true).wpIn (Fence.wide.inRound l) n P Q a w :=
  wpIn_mono (region_round hm hd (fun ⟨_, _, h⟩ => h) hS h) Calm.imp
end

theorem xor_one (I : Nat) (h : I ≤ 1099511627776) : bits .xor .i64 (I : Int) 1 = ((nb I : Nat) : Int) := by
  have e : I ^^^ 1 = nb I := by
    have h1 : (I ^^^ 1) % 2 = (I + 1) % 2 := by
      have h := Nat.xor_mod_two_pow (a := I) (b := 1) (n := 1)
      rw [Nat.pow_one] at h
      rw [h]
      rcases (show I % 2 = 0 ∨ I % 2 = 1 by omega) with e | e
      · rw [e, show (I + 1) % 2 = 1 by omega]; rfl
      · rw [e, show (I + 1) % 2 = 0 by omega]; rfl
    have h2 : (I ^^^ 1) / 2 = I / 2 := by rw [Nat.xor_div_two]; simp
    unfold nb
    split <;> omega
  have h1 : (BitVec.ofInt 64 (I : Int)).toNat = I := by
    rw [BitVec.ofInt_natCast, BitVec.toNat_ofNat]; exact Nat.mod_eq_of_lt (by omega)
  have h2 : (BitVec.ofInt 64 1).toNat = 1 := by decide
  show IntKind.i64.wrap ((BitVec.ofInt 64 (I : Int) ^^^ BitVec.ofInt 64 1).toNat : Int) = _
  have hn : nb I ≤ I + 1 := by unfold nb; split <;> omega
  rw [BitVec.toNat_xor, h1, h2, e]
  exact IntWalk.i64_in _ (by omega)

/-- A string is appended to a slice of the call's own, in a region that draws its order; what is apart from it stays. -/
theorem step_app9g {ops : Array Oper} {o : Oper} {a : Act} {w w0 : World} {K : Act → World → Prop} {Q : Exit → Act → World → Prop} {E : Prop} (hgd : o.guard = none) (s x : Operand)
    (ho : o.op = .call { callee := .builtin .append, args := #[s, x], argTypes := #[28, 28] }) {v : Value} {n : Nat} {xs : List Value} (g : Grows w0 w) (hs : a.eval s = v) (hown : w.ownsRow w0.heap.size 9 1 v n xs)
    {b : Nat} (t : List UInt8) (hx : a.eval x = .slice (some ⟨b, 0, none⟩) 1 1) (hnew : w.cell? ⟨b, 0, none⟩ = some (.string ⟨t.toArray⟩)) (hn : n ≤ 100000)
    (h : ∀ ao cap w', w'.ownsRow w0.heap.size 9 1 (.slice ao (n + 1) cap) (n + 1) (xs ++ [str t]) → Grows w0 w' → w.grownBy w' v.ownBlock → K (a.put o.dst (.slice ao (n + 1) cap)) w') :
    if Region.wanted o (yielded ops a.tmps) = true then Oper.wp Try.prog o a w K Q else E := by
  obtain ⟨i0, hi, hz0, hz1, hz2⟩ := info_parts info9
  refine step_append_lies w hgd s x 28 ho w0.heap.size 9 i0 (.string ⟨#[]⟩) 1 16 Try.underlying28 hi hz0 hz1 hz2 rfl (by decide) v n xs hs hown ⟨b, 0, none⟩ 1 1 [str t] hx rfl ?_ ?_ (by decide) (by unfold maxLen; omega) (by omega) g.size _ rfl (fun gg cap w' h1 h2 _ _ => h _ cap w' h1 (g.grown h2 g.size (fun k hk => (hown.lt k hk).1)) h2)
  · intro j u hj
    match j, hj with
    | 0, hj => simp at hj; subst hj; rw [Addr.add_mid]; exact hnew
  · intro u hu
    simp at hu
    subst hu
    rfl

/-- What stays while a neighbour is put behind the others. -/
structure PR (w : World) (b3 b6 g B : Nat) (L : List (List UInt8)) (k I : Nat) (X : List UInt8) (xs : List Value) (pv : Value) (A W : World) : Prop where
  v3 : Var b3 3 (.int .i64 (I : Int)) W
  v6 : Var b6 28 pv W
  o : W.ownsRow w.heap.size 9 1 pv k xs
  rX : W.rangeAt g (nb I * 8) (bc X)
  lev : Lev L B g k W
  gr : Grows w W
  kf : KeepsFrom B A W
theorem keeps_later {B : Nat} {A W W' : World} (h : KeepsFrom B A W) (g : Grows W W') : KeepsFrom B A W' := h.trans (keeps_grown (grown_grows g) (fun r e => by cases e))
theorem PR.later {w : World} {b3 b6 g B : Nat} {L : List (List UInt8)} {k I : Nat} {X : List UInt8} {xs : List Value} {pv : Value} {A W W' : World} (h : PR w b3 b6 g B L k I X xs pv A W) (gr : Grows W W') : PR w b3 b6 g B L k I X xs pv A W' :=
  ⟨h.v3.later gr, h.v6.later gr, owns_later h.o gr, range_later h.rX gr h.lev.2.1, h.lev.later gr, h.gr.then gr, keeps_later h.kf gr⟩

attribute [local go_sem] str
attribute [local go_sem] Oper.semAt_some

set_option linter.unusedSimpArgs false in
set_option maxRecDepth 100000 in
set_option maxHeartbeats 1000000 in
theorem prove_yes (v : Value) (L : List (List UInt8)) (i : Nat) (w : World) (hv : Row w v (strs L)) (hl : ∀ s ∈ L, s.length ≤ 1000) (h32 : L.length ≤ 32) (hi : i < L.length) :
    Calls Try.prog 23 #[v, .int .i64 (i : Int)] w fun e w' => ∃ v', e = .returned (.tuple #[v', .bool true]) ∧ Row w' v' (strs (prv L i)) ∧ Grows w w' := by
  have hform : ∃ a cap, v = .slice a L.length cap := by
    obtain ⟨a, cap, h, _⟩ := hv
    exact ⟨a, cap, by rw [h, strs_length]⟩
  obtain ⟨a, cap, rfl⟩ := hform
  have hi2 : (i : Int) < (L.length : Int) := by omega
  have hi3 : ¬ (i : Int) < 0 := by omega
  refine (callsIn_wide (n := 5)).1 ?_
  refine callsIn_of_wp_marks Try.func23 rfl trivial ?_ rfl
  simp only [Try.ntmps23, List.size_toArray, List.length_cons, List.length_nil, Nat.reduceAdd, Nat.reduceSub, Array.replicate_succ, Array.replicate_zero, List.push_toArray, List.append_toArray, List.nil_append, List.cons_append]
  gi_wp2_with fail
  refine ⟨trivial, (callsIn_wide.2 (levels_any a L.length cap _)).mono ?_⟩
  rintro e w1 ⟨rfl, hw1⟩
  gi_wp2_with fail
  have hs1 : w1.heap.size = w.heap.size + 1 + 1 + 1 := by rw [← hw1]; simp
  have g1 : Grows w w1 := by rw [← hw1]; exact (((Below.refl _ w).alloc (Nat.le_refl _) _).alloc (by simp) _).alloc (by simp; omega) _
  have hB : w1.cell? ⟨w.heap.size + 1 + 1, 0, none⟩ = some (.slice a L.length cap) := by
    have := World.cell?_alloc_new ((w.alloc (.cells #[.int .i64 (i : Int)] 3)).alloc (.cells #[.slice none 0 0] 28)) #[.slice a L.length cap] 28 0
    rw [World.size_alloc, World.size_alloc] at this
    rw [← hw1]; exact this
  have P0 : PI w w.heap.size (w.heap.size + 1) L i 0 w1 := by
    rw [← hw1]
    refine ⟨Nat.zero_le _, ?_, ⟨.slice none 0 0, ?_, World.ownsRow_nil _ _ _ _⟩, (((Below.refl _ w).alloc (Nat.le_refl _) _).alloc (by simp) _).alloc (by simp; omega) _⟩
    · have := Var.made w 3 (.int .i64 (i : Int))
      rw [Nat.pow_zero, Nat.div_one]
      exact (this.later ((Below.refl _ _).alloc (Nat.le_refl _) _)).later ((Below.refl _ _).alloc (Nat.le_refl _) _)
    · have := Var.made (w.alloc (.cells #[.int .i64 (i : Int)] 3)) 28 (.slice none 0 0)
      rw [World.size_alloc] at this
      exact this.later ((Below.refl _ _).alloc (Nat.le_refl _) _)
  clear hw1
  refine range_lv (K := lg L.length) (enc := levV L) (Lv := Lev L w1.heap.size) (w0 := w1) rfl (enters_of Try.func43 (by kernel_rfl) rfl) (iter_seq (5 - 1) L _ (w.heap.size + 1 + 1) w1 (hv.later g1) hB hl h32) (Below.refl _ _)
    (PI w w.heap.size (w.heap.size + 1) L i) (fun c k W => c = .exit 0 ∧ PI w w.heap.size (w.heap.size + 1) L i (lg L.length) W) PI.later (PI.putObj g1.size) (fun _ _ A l o o' h h1 h2 h3 => ⟨h.1, PI.putObj g1.size _ A l o o' h.2 h1 h2 h3⟩) Lev.putObj P0
    (fun g k => { tmps := #[Value.slice a L.length cap, Value.int IntKind.i64 ↑i, undef,
          Value.pointer (some { block := w.heap.size, off := 0 }), Value.slice none 0 0, Value.bool false,
          Value.pointer (some { block := w.heap.size + 1, off := 0 }), levV L g k, Value.int IntKind.i64 ↑i,
          Value.bool false, Value.bool false, Value.int IntKind.i64 ↑i, Value.slice a L.length cap,
          Value.int IntKind.i64 ↑L.length, Value.bool false, Value.bool false, Value.slice a L.length cap,
          Value.func (Fn.func 43) #[] #[Value.pointer (some { block := w.heap.size + 1 + 1, off := 0 })], levV L g k, undef,
          undef, undef, undef, undef, undef, undef, undef, undef, undef, undef, undef, undef, undef, undef], defers := [] }) ?assign ?body ?done ?stop
  case assign =>
    intro l g k A T hT
    gi_wp2_with fail
    exact hT
  case done =>
    intro D A hD hI hK
    have := hI.hk
    omega
  case stop =>
    rintro D c k A hD hk ⟨rfl, hI⟩ hK
    have hI2 := PI.putObj g1.size _ A D _ (.deferred none) hI hD hK rfl
    obtain ⟨pv, hv6, ho⟩ := hI.v6
    obtain ⟨pv', hv6', ho'⟩ := hI2.v6
    have hc6 := hv6.cell
    have hc6' := hv6'.cell
    have e6 : pv' = pv := by
      have h1 := (hv6.grown (grownBy_putObj' A D (.deferred none)) (fun e => by cases e; unfold Var at hv6; rw [hv6] at hK; cases hK)).cell
      rw [h1] at hc6'
      exact (Option.some.inj hc6').symm
    subst e6
    have HP := Lib.hid (show prv L i = prvTo L i (lg L.length) from rfl)
    have HR := Lib.hid (Row.of_owns ho')
    have HG := Lib.hid hI2.g
    clear hI hI2 hv6 hv6' ho ho' hc6'
    gi_wp2_with fail
    refine ⟨by simp, .inl ⟨_, _, rfl, run_takeDeferred hK, ?_⟩⟩
    exact ⟨_, by simp [results, Try.f23, go_sem]; rfl, _, rfl, by rw [HP.out]; exact HR.out, HG.out⟩
  case body =>
    intro l g k A hI hL hk
    have hp := lev_pos h32 hk
    obtain ⟨pv, hv6, ho⟩ := hI.v6
    have hv3 := hI.v3
    unfold levV
    by_cases h1 : 1 < (lev L k).length
    · have h2 : ((((lev L k).length : Nat) : Int) == 1) = false := by simp; omega
      have hk2 := lev_more h32 hk h1
      have hnb := nb_lt h32 hi hk2
      have hk5 : k ≤ 100000 := by have := lg_le L.length; omega
      have HS := Lib.hid (prvTo_snoc L i k)
      have HD := Lib.hid (div_succ i k)
      have HIb := Lib.hid (show i / 2 ^ k ≤ 1099511627776 by have := Nat.div_le_self i (2 ^ k); omega)
      have rX := hL.1 _ _ (List.getElem?_eq_getElem hnb)
      have hX8 := Lib.hid (all8 L k _ (List.getElem_mem hnb))
      have HX := Lib.hid (show (lev L k)[nb (i / 2 ^ k)]?.getD [] = (lev L k)[nb (i / 2 ^ k)] by rw [List.getElem?_eq_getElem hnb]; rfl)
      have hnb' : ((nb (i / 2 ^ k) : Nat) : Int) < ((lev L k).length : Int) := by omega
      rw [HX.out] at HS
      generalize (lev L k)[nb (i / 2 ^ k)] = X at *
      generalize hI0 : i / 2 ^ k = I at *
      have R0 : PR w w.heap.size (w.heap.size + 1) g w1.heap.size L k I X (strs (prvTo L i k)) pv A A.drew := (PR.later ⟨hv3, hv6, ho, rX, hL, hI.g, KeepsFrom.refl _ _⟩ (Below.refl _ _).drew)
      generalize hxs : strs (prvTo L i k) = xs at *
      clear hI HX hI0 hxs hv3 hv6 ho rX hL P0 hB g1 hv
      gi_wp2_with fail
      refine region_calm (S := fun W => Var w.heap.size 3 (.int .i64 (I : Int)) W ∧ W.rangeAt g (nb I * 8) (bc X)) (by kernel_rfl) (defers_none _ (by kernel_rfl)) ⟨R0.v3, R0.rX⟩ (fun hHeld => ?_)
      generalize A.drew = W0 at *
      refine wpAnyT_begin [1, 2] (by kernel_rfl) (by kernel_rfl) ?_
      refine wpAnyT_take (oi := ⟨some 23, Op.move (Operand.tmp 7), 62, _, _, none⟩) (v := .slice (some ⟨g, 0, none⟩) (lev L k).length (lev L k).length) rfl (fun _ _ _ h => h) (by rfl) (by assumption) (fun wS hSw => ?_) ?_
      · clear hSw; go_simp
      simp only [Act.put, List.setIfInBounds_toArray, List.set_cons_zero, List.set_cons_succ]
      refine wpAnyT_take (oi := ⟨some 24, Op.load 3 (Operand.tmp 3), 3, _, _, none⟩) (v := .int .i64 (I : Int)) rfl (fun _ _ _ h => h) (by rfl) (by assumption) (fun wS hSw => ?_) ?_
      · have hc := hSw.1.cell; clear hSw; go_simp
      simp only [Act.put, List.setIfInBounds_toArray, List.set_cons_zero, List.set_cons_succ]
      refine wpAnyT_end ?_
      refine wpAnyT_begin [3, 4, 5] (by kernel_rfl) (by kernel_rfl) ?_
      refine wpAnyT_take (oi := ⟨some 25, Op.binOp BinOp.xor 3 (Operand.tmp 24) (Operand.const (Value.int IntKind.i64 1)) 3, 3, _, _, none⟩) (v := .int .i64 (nb I : Nat)) rfl (fun _ _ _ h => h) (by rfl) (by assumption) (fun wS hSw => ?_) ?_
      · clear hSw; go_simp; exact xor_one I HIb.out
      simp only [Act.put, List.setIfInBounds_toArray, List.set_cons_zero, List.set_cons_succ]
      refine wpAnyT_take (oi := ⟨some 26, Op.indexAddr 62 (Operand.tmp 23) (Operand.tmp 25), 0, _, _, none⟩) (v := .pointer (some ⟨g, nb I * 8, none⟩)) rfl (fun _ _ _ h => h) (by rfl) (by assumption) (fun wS hSw => ?_) ?_
      · clear hSw; go_simp <;> omega
      simp only [Act.put, List.setIfInBounds_toArray, List.set_cons_zero, List.set_cons_succ]
      refine wpAnyT_take (oi := ⟨some 27, Op.load 52 (Operand.tmp 26), 52, _, _, none⟩) (v := agg8 X) rfl (fun _ _ _ h => h) (by rfl) (by assumption) (fun wS hSw => exec8 _ rfl rfl hX8 hSw.2) ?_
      simp only [Act.put, List.setIfInBounds_toArray, List.set_cons_zero, List.set_cons_succ]
      refine wpAnyT_end ?_
      refine wpAnyH_listed #[false, true, true, true, true, true, false, false, false, false] (by kernel_rfl) ?_
      refine wpAnyH_ready (rs := [0, 6]) (by kernel_rfl) (by simp) ?_
      refine AllReadyH.cons (o := ⟨some 22, Op.load 28 (Operand.tmp 6), 28, _, _, none⟩) rfl (fun K hK => ?A1) (AllReadyH.cons (o := ⟨some 28, Op.call { callee := Callee.value (Operand.func 32), args := #[Operand.tmp 27], argTypes := #[52] }, 9, _, _, none⟩) rfl (fun K hK => ?A2) AllReadyH.nil)
      -- the proof's variable is read first
      case' A1 =>
        have hc := R0.v6.cell
        go_simp
        clear hHeld hc
        refine hK.out _ _ ⟨R0.v3, R0.rX⟩ (fun hHeld => ?_)
        clear hK K
        try simp only [Act.put, List.setIfInBounds_toArray, List.set_cons_zero, List.set_cons_succ]
        refine wpAnyH_ready (rs := [6]) (by kernel_rfl) (by simp) ?_
        refine AllReadyH.cons (o := ⟨some 28, Op.call { callee := Callee.value (Operand.func 32), args := #[Operand.tmp 27], argTypes := #[52] }, 9, _, _, none⟩) rfl (fun K hK => ?_) AllReadyH.nil
        go_simp
        go_at_call 32
        refine (text_any X _ hX8.out).mono ?_
        rintro e w2 ⟨rfl, g2⟩
        have R2 := R0.later g2
        go_wp2_with fail
        clear hHeld
        refine hK.out _ _ ⟨R2.v3, R2.rX⟩ (fun hHeld => ?_)
        clear hK K
        try simp only [Act.put, List.setIfInBounds_toArray, List.set_cons_zero, List.set_cons_succ]
        refine wpAnyH_ready (rs := [7]) (by kernel_rfl) (by simp) ?_
        refine AllReadyH.cons (o := ⟨some 29, Op.buildSlice 28 1 #[(0, Operand.tmp 28)], 28, _, _, none⟩) rfl (fun K hK => ?_) AllReadyH.nil
        go_simp
        have R3 := R2.later ((Below.refl _ w2).alloc (Nat.le_refl _) (.cells #[.string ⟨X.toArray⟩] 9))
        clear hHeld
        refine hK.out _ _ ⟨R3.v3, R3.rX⟩ (fun hHeld => ?_)
        clear hK K
        try simp only [Act.put, List.setIfInBounds_toArray, List.set_cons_zero, List.set_cons_succ]
      -- the digest's text is made first
      case' A2 =>
        go_simp
        go_at_call 32
        refine (text_any X _ hX8.out).mono ?_
        rintro e w2 ⟨rfl, g2⟩
        have R2 := R0.later g2
        go_wp2_with fail
        clear hHeld
        refine hK.out _ _ ⟨R2.v3, R2.rX⟩ (fun hHeld => ?_)
        clear hK K
        try simp only [Act.put, List.setIfInBounds_toArray, List.set_cons_zero, List.set_cons_succ]
        refine wpAnyH_ready (rs := [0, 7]) (by kernel_rfl) (by simp) ?_
        refine AllReadyH.cons (o := ⟨some 22, Op.load 28 (Operand.tmp 6), 28, _, _, none⟩) rfl (fun K hK => ?B1) (AllReadyH.cons (o := ⟨some 29, Op.buildSlice 28 1 #[(0, Operand.tmp 28)], 28, _, _, none⟩) rfl (fun K hK => ?B2) AllReadyH.nil)
        case' B1 =>
          have hc := R2.v6.cell
          go_simp
          clear hHeld hc
          refine hK.out _ _ ⟨R2.v3, R2.rX⟩ (fun hHeld => ?_)
          clear hK K
          try simp only [Act.put, List.setIfInBounds_toArray, List.set_cons_zero, List.set_cons_succ]
          refine wpAnyH_ready (rs := [7]) (by kernel_rfl) (by simp) ?_
          refine AllReadyH.cons (o := ⟨some 29, Op.buildSlice 28 1 #[(0, Operand.tmp 28)], 28, _, _, none⟩) rfl (fun K hK => ?_) AllReadyH.nil
          go_simp
          have R3 := R2.later ((Below.refl _ w2).alloc (Nat.le_refl _) (.cells #[.string ⟨X.toArray⟩] 9))
          clear hHeld
          refine hK.out _ _ ⟨R3.v3, R3.rX⟩ (fun hHeld => ?_)
          clear hK K
          try simp only [Act.put, List.setIfInBounds_toArray, List.set_cons_zero, List.set_cons_succ]
        case' B2 =>
          go_simp
          have R3 := R2.later ((Below.refl _ w2).alloc (Nat.le_refl _) (.cells #[.string ⟨X.toArray⟩] 9))
          clear hHeld
          refine hK.out _ _ ⟨R3.v3, R3.rX⟩ (fun hHeld => ?_)
          clear hK K
          try simp only [Act.put, List.setIfInBounds_toArray, List.set_cons_zero, List.set_cons_succ]
          refine wpAnyH_ready (rs := [0]) (by kernel_rfl) (by simp) ?_
          refine AllReadyH.cons (o := ⟨some 22, Op.load 28 (Operand.tmp 6), 28, _, _, none⟩) rfl (fun K hK => ?_) AllReadyH.nil
          have hc := R3.v6.cell
          go_simp
          clear hHeld hc
          refine hK.out _ _ ⟨R3.v3, R3.rX⟩ (fun hHeld => ?_)
          clear hK K
          try simp only [Act.put, List.setIfInBounds_toArray, List.set_cons_zero, List.set_cons_succ]
      all_goals
        have hnew := World.cell?_alloc_new w2 #[.string ⟨X.toArray⟩] 9 0
        generalize hW3 : w2.alloc (.cells #[.string ⟨X.toArray⟩] 9) = W3 at *
        clear hW3
        refine wpAnyH_ready (rs := [8]) (by kernel_rfl) (by simp) ?_
        refine AllReadyH.cons (o := ⟨some 30, Op.call { callee := Callee.builtin Builtin.append, args := #[Operand.tmp 22, Operand.tmp 29], argTypes := #[28, 28] }, 28, _, _, none⟩) rfl (fun K hK => ?_) AllReadyH.nil
        refine step_app9g rfl _ _ rfl R3.gr rfl R3.o X rfl hnew hk5 ?_
        intro ao4 cap4 w4 o4 b4 h4
        have v34 := R3.v3.grown h4 (owns_apart R3.o R3.v3 (by decide))
        have v64 := R3.v6.grown h4 (owns_apart R3.o R3.v6 (by decide))
        have L4 := R3.lev.grown h4 (owns_apart_lev R3.o R3.lev.2.2.2)
        have K4 := R3.kf.trans (keeps_grown (B := w1.heap.size) h4 (fun r hr => by obtain ⟨c, hc⟩ := owns_cells R3.o r hr; exact ⟨_, hc, rfl⟩))
        have r4 : w4.rangeAt g (nb I * 8) (bc X) := fun q u hu => h4.cell (R3.rX q u hu) (Ne.symm (owns_apart_lev R3.o R3.lev.2.2.2))
        clear hHeld hnew h4
        refine hK.out _ _ ⟨v34, r4⟩ (fun hHeld => ?_)
        clear hK K
        try simp only [Act.put, List.setIfInBounds_toArray, List.set_cons_zero, List.set_cons_succ]
        refine wpAnyH_ready (rs := [9]) (by kernel_rfl) (by simp) ?_
        refine AllReadyH.cons (o := ⟨none, Op.store 28 (Operand.tmp 6) (Operand.tmp 30), 0, _, _, none⟩) rfl (fun K hK => ?_) AllReadyH.nil
        have hc := v64.cell
        have hf := v64.frozen
        go_simp
        clear hc hf
        have gs := grown_set w4 (w.heap.size + 1) 0 (.slice ao4 (k + 1) cap4)
        have hgg : w1.heap.size ≤ g := L4.2.2.1
        have v35 := v34.grown gs (by simp)
        have v65 := v64.set (.slice ao4 (k + 1) cap4)
        have o5 := o4.kept gs (.inr (owns_apart o4 v64 (by decide)))
        have L5 := L4.grown gs (fun e => by have := Option.some.inj e; omega)
        have r5 : (w4.setCell ⟨w.heap.size + 1, 0, none⟩ (.slice ao4 (k + 1) cap4)).rangeAt g (nb I * 8) (bc X) := fun q u hu => gs.cell (r4 q u hu) (fun e => by have := Option.some.inj e; simp only at this; omega)
        have K5 := K4.trans (keeps_grown (B := w1.heap.size) gs (fun r hr => by cases hr; exact ⟨_, v64, rfl⟩))
        have G5 : Grows w (w4.setCell ⟨w.heap.size + 1, 0, none⟩ (.slice ao4 (k + 1) cap4)) := b4.setCell (p := ⟨w.heap.size + 1, 0, none⟩) (Nat.le_succ _) _
        generalize w4.setCell ⟨w.heap.size + 1, 0, none⟩ (.slice ao4 (k + 1) cap4) = W5 at *
        clear hHeld gs v34 v64 o4 L4 r4 K4 b4
        refine hK.out _ _ ⟨v35, r5⟩ (fun hHeld => ?_)
        clear hK K hHeld
        try simp only [Act.put, List.setIfInBounds_toArray, List.set_cons_zero, List.set_cons_succ]
        refine wpAnyH_done (by kernel_rfl) ?_ _
        refine Calm.normal ?_
        have hc := v35.cell
        have hf := v35.frozen
        gi_wp2_with fail
        clear hc hf
        refine ⟨K5.trans (keeps_grown (B := w1.heap.size) (grown_set W5 w.heap.size 0 _) (fun r hr => by cases hr; exact ⟨_, v35, rfl⟩)), ⟨by omega, ?_, ⟨.slice ao4 (k + 1) cap4, v65.grown (grown_set W5 w.heap.size 0 _) (by simp), ?_⟩, G5.setCell (p := ⟨w.heap.size, 0, none⟩) (Nat.le_refl _) _⟩, L5.grown (grown_set W5 w.heap.size 0 _) (fun e => by have := Option.some.inj e; omega)⟩
        · rw [HD.out]
          first
            | exact v35.set _
            | (rw [← half I HIb.out]; exact v35.set _)
        · rw [HS.out]
          exact o5.kept (grown_set W5 w.heap.size 0 _) (.inr (owns_apart o5 v35 (by decide)))
    · have hk2 := lev_top h32 hk h1
      subst hk2
      have h2 : ((((lev L (lg L.length)).length : Nat) : Int) == 1) = true := by simp; omega
      gi_wp2_with fail
      exact ⟨KeepsFrom.refl _ _, rfl, hI⟩
end Go.Proofs.Ytmgkbkpfhpkbcaa
