/- The reader of wire: lists that can't be decoded, and the methods for lists. -/
import Derived.Test.YtjiljkiedidmeaaDoorElems
namespace Go.Proofs.YtjiljkiedidmeaaDoor
open Go.RowKit Go.Lib

set_option maxRecDepth 100000 in
set_option maxHeartbeats 1000000 in
theorem elints_open (b : Nat) (l : List UInt8) (t : Bool) (w : World) (h : RdAt w b l t) (hd : l.head? ≠ some 91) :
    Calls Tryd.prog 47 #[.pointer (some ⟨b, 0, none⟩), .func (.func 22) #[.pointer (some ⟨b, 0, none⟩)] #[]] w (RdPost w b (.slice none 0 0) [] true) := by
  go_enter Tryd.func47, Tryd.ntmps47
  go_wp2_with fail
  refine wp_scope_jumps 0 (fun a' w' => ∃ u4 u5 u6 u7 u8 u9 u10 u11 u12 u13 u14 u15 u16 u17 u18 u19 u20 u21 : Value, a' = { tmps := #[.pointer (some ⟨b, 0, none⟩), .func (.func 22) #[.pointer (some ⟨b, 0, none⟩)] #[], undef, undef, u4, u5, u6, u7, u8, u9, u10, u11, u12, u13, u14, u15, u16, u17, u18, u19, u20, u21], defers := [] } ∧ (∃ l t, RdAt w' b l t) ∧ w.grownBy w' (some b)) (fun _ _ => 0) rfl ?_ ?_
  · go_wp2_with fail
    refine (skip_not b 91 l t _ hd h).mono ?_
    rintro e w1 ⟨rfl, rfl⟩
    go_wp2_with fail
    go_step3
    exact ⟨rfl, _, _, _, _, _, _, _, _, _, _, _, _, _, _, _, _, _, _, rfl, ⟨l, t, h⟩, grown_refl _ _⟩
  · rintro a' w' ⟨u4, u5, u6, u7, u8, u9, u10, u11, u12, u13, u14, u15, u16, u17, u18, u19, u20, u21, rfl, ⟨l', t', h1⟩, g1⟩
    go_wp2_with fail
    refine (spoil_any b l' t' _ h1).mono ?_
    rintro e w2 ⟨rfl, h2, g2⟩
    have hg := grown_trans g1 g2
    go_wp2_with fail
    simp only [Exit.jump]
    go_ret
    exact ⟨rfl, h2, hg⟩

set_option maxRecDepth 100000 in
set_option maxHeartbeats 1000000 in
theorem elints_fail (b : Nat) (q : List UInt8) (w : World) (E : Env w) (hb4 : 4 ≤ b) (hl : Short (91 :: q)) (h : RdAt w b (91 :: q) false) (hv : elems rdI q = none) :
    Calls Tryd.prog 47 #[.pointer (some ⟨b, 0, none⟩), .func (.func 22) #[.pointer (some ⟨b, 0, none⟩)] #[]] w (RdPost w b (.slice none 0 0) [] true) := by
  obtain ⟨i0, hi, hz0, hz1, hz2⟩ := info_parts info3
  have hbw := h.lt
  have HV := Lib.hid hv
  clear hv
  have hlq : q.length + 1 < 4294967281 := hl
  go_enter Tryd.func47, Tryd.ntmps47
  go_wp2_with fail
  refine wp_scope_jumps 0 (fun a' w' => ∃ u4 u5 u6 u7 u8 u9 u10 u11 u12 u13 u14 u15 u16 u17 u18 u19 u20 u21 : Value, a' = { tmps := #[.pointer (some ⟨b, 0, none⟩), .func (.func 22) #[.pointer (some ⟨b, 0, none⟩)] #[], undef, undef, u4, u5, u6, u7, u8, u9, u10, u11, u12, u13, u14, u15, u16, u17, u18, u19, u20, u21], defers := [] } ∧ (∃ l t, RdAt w' b l t) ∧ w.grownBy w' (some b)) (fun _ _ => 0) rfl ?_ ?_
  · go_wp2_with fail
    refine (skip_yes b 91 q false _ (by omega) h).mono ?_
    rintro e w1 ⟨rfl, h1, g1⟩
    have o1 : w1.ownsRow w.heap.size 3 1 (.slice none 0 0) 0 [] := World.ownsRow_nil _ _ _ _
    go_wp2_with fail
    go_loopw [5] (fun v wr => ∃ (k : Nat) (acc : List Value) (rest : List UInt8), Hid (elems rdI rest = none) ∧ k + rest.length ≤ q.length ∧ RdAt wr b rest false ∧ wr.ownsRow w.heap.size 3 1 v k acc ∧ w.grownBy wr (some b)) (fun _ wr => cellLen wr b)
    case atStart => exact ⟨0, [], q, HV.out, by simp, h1, o1, g1⟩
    case round =>
      clear h1 o1 g1 HV
      obtain ⟨k, acc, rest, HE, hlen, h1, o1, g1⟩ := hrel
      have hcl := cellLen_of h1
      rw [hcl]
      clear hcl
      have hs1 := g1.size
      rcases elems_none fitsI HE.out with ⟨hd, hr | ⟨v, q2, hr, he2, hq2⟩⟩
      · have HR := Lib.hid hr
        clear hr HE
        go_wp2_with fail
        refine (skip_not b 93 rest false _ hd h1).mono ?_
        rintro e w2 ⟨rfl, rfl⟩
        go_wp2_with fail
        refine (rdint_no b rest false _ (E.grown g1 hb4) (by unfold Short; omega) h1 HR.out).mono ?_
        rintro e w2 ⟨rfl, h2, g2⟩
        have o2 := owns_grown o1 g2 hbw
        have g3 := grown_trans g1 g2
        have hs2 := g2.size
        have hb2 := h2.lt
        clear h1 o1 g1 g2 hd
        go_wp2_with (at_builtin; refine wpList_append_own _ rfl _ _ 22 rfl w.heap.size 3 i0 _ 1 8 Tryd.underlying22 hi hz0 hz1 hz2 rfl (by decide) _ _ _ rfl (o2.alloc _) ⟨w2.heap.size, 0, none⟩ 1 1 [.int .i64 0] rfl rfl ?c1 ?c2 ?c3 ?c4 ?c5 ?_)
        case c1 =>
          intro j u hj
          match j, hj with
          | 0, hj => simp at hj; subst hj; simp [Addr.add]
        case c2 => intro u hu; simp at hu; subst hu; rfl
        case c3 => unfold maxLen; omega
        case c4 => omega
        case c5 => simp; omega
        intro v' w3 o3 g4 _
        have h3 : RdAt w3 b [] true := (g4.block b (by simp; omega) (fun e => own_ne o2 hbw e.symm)).trans (h2.later ((Below.refl _ _).alloc (Nat.le_refl _) _))
        have g5 : w.grownBy w3 (some b) := by
          refine ⟨g4.os.trans g3.os, g4.tape.trans g3.tape, g4.output.trans g3.output, by have := g4.size; simp at this; omega, fun k hk hne => ?_⟩
          rw [g4.block k (by simp; omega) (fun e => by have := (o2.lt k e.symm).1; omega)]
          exact (alloc_old _ _ k (by omega)).trans (g3.block k hk hne)
        clear h2 o2 g3 o3 g4
        go_wp2_with fail
        refine (bad_any b [] true _ h3).mono ?_
        rintro e w4 ⟨rfl, rfl⟩
        go_wp2_with fail
        go_step3
        exact ⟨rfl, _, _, _, _, _, _, _, _, _, _, _, _, _, _, _, _, _, _, rfl, ⟨_, _, h3⟩, g5⟩
      · have HR := Lib.hid hr
        have HE2 := Lib.hid he2
        clear hr he2 HE
        go_wp2_with fail
        refine (skip_not b 93 rest false _ hd h1).mono ?_
        rintro e w2 ⟨rfl, rfl⟩
        go_wp2_with fail
        refine (rdint_yes b rest q2 false v _ (E.grown g1 hb4) (by unfold Short; omega) h1 HR.out).mono ?_
        rintro e w2 ⟨rfl, h2, g2⟩
        have o2 := owns_grown o1 g2 hbw
        have g3 := grown_trans g1 g2
        have hs2 := g2.size
        have hb2 := h2.lt
        clear h1 o1 g1 g2 hd
        go_wp2_with (at_builtin; refine wpList_append_own _ rfl _ _ 22 rfl w.heap.size 3 i0 _ 1 8 Tryd.underlying22 hi hz0 hz1 hz2 rfl (by decide) _ _ _ rfl (o2.alloc _) ⟨w2.heap.size, 0, none⟩ 1 1 [.int .i64 v] rfl rfl ?c1 ?c2 ?c3 ?c4 ?c5 ?_)
        case c1 =>
          intro j u hj
          match j, hj with
          | 0, hj => simp at hj; subst hj; simp [Addr.add]
        case c2 => intro u hu; simp at hu; subst hu; rfl
        case c3 => unfold maxLen; omega
        case c4 => omega
        case c5 => simp; omega
        intro v' w3 o3 g4 _
        have h3 : RdAt w3 b q2 false := (g4.block b (by simp; omega) (fun e => own_ne o2 hbw e.symm)).trans (h2.later ((Below.refl _ _).alloc (Nat.le_refl _) _))
        have g5 : w.grownBy w3 (some b) := by
          refine ⟨g4.os.trans g3.os, g4.tape.trans g3.tape, g4.output.trans g3.output, by have := g4.size; simp at this; omega, fun k hk hne => ?_⟩
          rw [g4.block k (by simp; omega) (fun e => by have := (o2.lt k e.symm).1; omega)]
          exact (alloc_old _ _ k (by omega)).trans (g3.block k hk hne)
        clear h2 o2 g3 g4
        go_wp2_with fail
        refine (bad_any b q2 false _ h3).mono ?_
        rintro e w4 ⟨rfl, rfl⟩
        have hcl := cellLen_of h3
        go_wp2_with fail
        go_roundw
        case rel => exact ⟨k + 1, _, q2, HE2.out, by omega, h3, o3, g5⟩
        case measure => omega
  · rintro a' w' ⟨u4, u5, u6, u7, u8, u9, u10, u11, u12, u13, u14, u15, u16, u17, u18, u19, u20, u21, rfl, ⟨l', t', h1⟩, g1⟩
    go_wp2_with fail
    refine (spoil_any b l' t' _ h1).mono ?_
    rintro e w2 ⟨rfl, h2, g2⟩
    have hg := grown_trans g1 g2
    go_wp2_with fail
    simp only [Exit.jump]
    go_ret
    exact ⟨rfl, h2, hg⟩

theorem elints_no (b : Nat) (l : List UInt8) (t : Bool) (w : World) (E : Env w) (hb4 : 4 ≤ b) (hl : Short l) (h : RdAt w b l t) (ht : t = true → l = []) (hv : rdL rdI l = none) :
    Calls Tryd.prog 47 #[.pointer (some ⟨b, 0, none⟩), .func (.func 22) #[.pointer (some ⟨b, 0, none⟩)] #[]] w (RdPost w b (.slice none 0 0) [] true) := by
  rcases rdL_none hv with hd | ⟨q, rfl, he⟩
  · exact elints_open b l t w h hd
  · cases t with
    | true => cases ht rfl
    | false => exact elints_fail b q w E hb4 hl h he

set_option maxRecDepth 100000 in
set_option maxHeartbeats 1000000 in
theorem elstrs_open (b : Nat) (l : List UInt8) (t : Bool) (w : World) (h : RdAt w b l t) (hd : l.head? ≠ some 91) :
    Calls Tryd.prog 49 #[.pointer (some ⟨b, 0, none⟩), .func (.func 24) #[.pointer (some ⟨b, 0, none⟩)] #[]] w (RdPost w b (.slice none 0 0) [] true) := by
  go_enter Tryd.func49, Tryd.ntmps49
  go_wp2_with fail
  refine wp_scope_jumps 0 (fun a' w' => ∃ u4 u5 u6 u7 u8 u9 u10 u11 u12 u13 u14 u15 u16 u17 u18 u19 u20 u21 : Value, a' = { tmps := #[.pointer (some ⟨b, 0, none⟩), .func (.func 24) #[.pointer (some ⟨b, 0, none⟩)] #[], undef, undef, u4, u5, u6, u7, u8, u9, u10, u11, u12, u13, u14, u15, u16, u17, u18, u19, u20, u21], defers := [] } ∧ (∃ l t, RdAt w' b l t) ∧ w.grownBy w' (some b)) (fun _ _ => 0) rfl ?_ ?_
  · go_wp2_with fail
    refine (skip_not b 91 l t _ hd h).mono ?_
    rintro e w1 ⟨rfl, rfl⟩
    go_wp2_with fail
    go_step3
    exact ⟨rfl, _, _, _, _, _, _, _, _, _, _, _, _, _, _, _, _, _, _, rfl, ⟨l, t, h⟩, grown_refl _ _⟩
  · rintro a' w' ⟨u4, u5, u6, u7, u8, u9, u10, u11, u12, u13, u14, u15, u16, u17, u18, u19, u20, u21, rfl, ⟨l', t', h1⟩, g1⟩
    go_wp2_with fail
    refine (spoil_any b l' t' _ h1).mono ?_
    rintro e w2 ⟨rfl, h2, g2⟩
    have hg := grown_trans g1 g2
    go_wp2_with fail
    simp only [Exit.jump]
    go_ret
    exact ⟨rfl, h2, hg⟩

set_option maxRecDepth 100000 in
set_option maxHeartbeats 1000000 in
theorem elstrs_fail (b : Nat) (q : List UInt8) (w : World) (E : Env w) (hb4 : 4 ≤ b) (hl : Short (91 :: q)) (h : RdAt w b (91 :: q) false) (hv : elems rdT q = none) :
    Calls Tryd.prog 49 #[.pointer (some ⟨b, 0, none⟩), .func (.func 24) #[.pointer (some ⟨b, 0, none⟩)] #[]] w (RdPost w b (.slice none 0 0) [] true) := by
  obtain ⟨i0, hi, hz0, hz1, hz2⟩ := info_parts info9
  have hbw := h.lt
  have HV := Lib.hid hv
  clear hv
  have hlq : q.length + 1 < 4294967281 := hl
  go_enter Tryd.func49, Tryd.ntmps49
  go_wp2_with fail
  refine wp_scope_jumps 0 (fun a' w' => ∃ u4 u5 u6 u7 u8 u9 u10 u11 u12 u13 u14 u15 u16 u17 u18 u19 u20 u21 : Value, a' = { tmps := #[.pointer (some ⟨b, 0, none⟩), .func (.func 24) #[.pointer (some ⟨b, 0, none⟩)] #[], undef, undef, u4, u5, u6, u7, u8, u9, u10, u11, u12, u13, u14, u15, u16, u17, u18, u19, u20, u21], defers := [] } ∧ (∃ l t, RdAt w' b l t) ∧ w.grownBy w' (some b)) (fun _ _ => 0) rfl ?_ ?_
  · go_wp2_with fail
    refine (skip_yes b 91 q false _ (by omega) h).mono ?_
    rintro e w1 ⟨rfl, h1, g1⟩
    have o1 : w1.ownsRow w.heap.size 9 1 (.slice none 0 0) 0 [] := World.ownsRow_nil _ _ _ _
    go_wp2_with fail
    go_loopw [5] (fun v wr => ∃ (k : Nat) (acc : List Value) (rest : List UInt8), Hid (elems rdT rest = none) ∧ k + rest.length ≤ q.length ∧ RdAt wr b rest false ∧ wr.ownsRow w.heap.size 9 1 v k acc ∧ w.grownBy wr (some b)) (fun _ wr => cellLen wr b)
    case atStart => exact ⟨0, [], q, HV.out, by simp, h1, o1, g1⟩
    case round =>
      clear h1 o1 g1 HV
      obtain ⟨k, acc, rest, HE, hlen, h1, o1, g1⟩ := hrel
      have hcl := cellLen_of h1
      rw [hcl]
      clear hcl
      have hs1 := g1.size
      rcases elems_none fitsT HE.out with ⟨hd, hr | ⟨v, q2, hr, he2, hq2⟩⟩
      · have HR := Lib.hid hr
        clear hr HE
        go_wp2_with fail
        refine (skip_not b 93 rest false _ hd h1).mono ?_
        rintro e w2 ⟨rfl, rfl⟩
        go_wp2_with fail
        refine (rdtext_no b rest false _ (E.grown g1 hb4) (by unfold Short; omega) h1 HR.out).mono ?_
        rintro e w2 ⟨rfl, h2, g2⟩
        have o2 := owns_grown o1 g2 hbw
        have g3 := grown_trans g1 g2
        have hs2 := g2.size
        have hb2 := h2.lt
        clear h1 o1 g1 g2 hd
        go_wp2_with (at_builtin; refine wpList_append_own _ rfl _ _ 23 rfl w.heap.size 9 i0 _ 1 16 Tryd.underlying23 hi hz0 hz1 hz2 rfl (by decide) _ _ _ rfl (o2.alloc _) ⟨w2.heap.size, 0, none⟩ 1 1 [.string ⟨#[]⟩] rfl rfl ?c1 ?c2 ?c3 ?c4 ?c5 ?_)
        case c1 =>
          intro j u hj
          match j, hj with
          | 0, hj => simp at hj; subst hj; simp [Addr.add]
        case c2 => intro u hu; simp at hu; subst hu; rfl
        case c3 => unfold maxLen; omega
        case c4 => omega
        case c5 => simp; omega
        intro v' w3 o3 g4 _
        have h3 : RdAt w3 b [] true := (g4.block b (by simp; omega) (fun e => own_ne o2 hbw e.symm)).trans (h2.later ((Below.refl _ _).alloc (Nat.le_refl _) _))
        have g5 : w.grownBy w3 (some b) := by
          refine ⟨g4.os.trans g3.os, g4.tape.trans g3.tape, g4.output.trans g3.output, by have := g4.size; simp at this; omega, fun k hk hne => ?_⟩
          rw [g4.block k (by simp; omega) (fun e => by have := (o2.lt k e.symm).1; omega)]
          exact (alloc_old _ _ k (by omega)).trans (g3.block k hk hne)
        clear h2 o2 g3 o3 g4
        go_wp2_with fail
        refine (bad_any b [] true _ h3).mono ?_
        rintro e w4 ⟨rfl, rfl⟩
        go_wp2_with fail
        go_step3
        exact ⟨rfl, _, _, _, _, _, _, _, _, _, _, _, _, _, _, _, _, _, _, rfl, ⟨_, _, h3⟩, g5⟩
      · have HR := Lib.hid hr
        have HE2 := Lib.hid he2
        clear hr he2 HE
        go_wp2_with fail
        refine (skip_not b 93 rest false _ hd h1).mono ?_
        rintro e w2 ⟨rfl, rfl⟩
        go_wp2_with fail
        refine (rdtext_yes b rest v q2 false _ (E.grown g1 hb4) (by unfold Short; omega) h1 HR.out).mono ?_
        rintro e w2 ⟨rfl, h2, g2⟩
        have o2 := owns_grown o1 g2 hbw
        have g3 := grown_trans g1 g2
        have hs2 := g2.size
        have hb2 := h2.lt
        clear h1 o1 g1 g2 hd
        go_wp2_with (at_builtin; refine wpList_append_own _ rfl _ _ 23 rfl w.heap.size 9 i0 _ 1 16 Tryd.underlying23 hi hz0 hz1 hz2 rfl (by decide) _ _ _ rfl (o2.alloc _) ⟨w2.heap.size, 0, none⟩ 1 1 [.string ⟨v.toArray⟩] rfl rfl ?c1 ?c2 ?c3 ?c4 ?c5 ?_)
        case c1 =>
          intro j u hj
          match j, hj with
          | 0, hj => simp at hj; subst hj; simp [Addr.add]
        case c2 => intro u hu; simp at hu; subst hu; rfl
        case c3 => unfold maxLen; omega
        case c4 => omega
        case c5 => simp; omega
        intro v' w3 o3 g4 _
        have h3 : RdAt w3 b q2 false := (g4.block b (by simp; omega) (fun e => own_ne o2 hbw e.symm)).trans (h2.later ((Below.refl _ _).alloc (Nat.le_refl _) _))
        have g5 : w.grownBy w3 (some b) := by
          refine ⟨g4.os.trans g3.os, g4.tape.trans g3.tape, g4.output.trans g3.output, by have := g4.size; simp at this; omega, fun k hk hne => ?_⟩
          rw [g4.block k (by simp; omega) (fun e => by have := (o2.lt k e.symm).1; omega)]
          exact (alloc_old _ _ k (by omega)).trans (g3.block k hk hne)
        clear h2 o2 g3 g4
        go_wp2_with fail
        refine (bad_any b q2 false _ h3).mono ?_
        rintro e w4 ⟨rfl, rfl⟩
        have hcl := cellLen_of h3
        go_wp2_with fail
        go_roundw
        case rel => exact ⟨k + 1, _, q2, HE2.out, by omega, h3, o3, g5⟩
        case measure => omega
  · rintro a' w' ⟨u4, u5, u6, u7, u8, u9, u10, u11, u12, u13, u14, u15, u16, u17, u18, u19, u20, u21, rfl, ⟨l', t', h1⟩, g1⟩
    go_wp2_with fail
    refine (spoil_any b l' t' _ h1).mono ?_
    rintro e w2 ⟨rfl, h2, g2⟩
    have hg := grown_trans g1 g2
    go_wp2_with fail
    simp only [Exit.jump]
    go_ret
    exact ⟨rfl, h2, hg⟩

theorem elstrs_no (b : Nat) (l : List UInt8) (t : Bool) (w : World) (E : Env w) (hb4 : 4 ≤ b) (hl : Short l) (h : RdAt w b l t) (ht : t = true → l = []) (hv : rdL rdT l = none) :
    Calls Tryd.prog 49 #[.pointer (some ⟨b, 0, none⟩), .func (.func 24) #[.pointer (some ⟨b, 0, none⟩)] #[]] w (RdPost w b (.slice none 0 0) [] true) := by
  rcases rdL_none hv with hd | ⟨q, rfl, he⟩
  · exact elstrs_open b l t w h hd
  · cases t with
    | true => cases ht rfl
    | false => exact elstrs_fail b q w E hb4 hl h he

set_option maxRecDepth 100000 in
set_option maxHeartbeats 1000000 in
theorem elints_nil (w : World) :
    Calls Tryd.prog 47 #[.pointer none, .func (.func 22) #[.pointer none] #[]] w fun e w' => e = .returned (.slice none 0 0) ∧ w = w' := by
  go_enter Tryd.func47, Tryd.ntmps47
  go_wp2_with fail
  refine wp_scope_jumps 0 (fun a' w' => ∃ u4 u5 u6 u7 u8 u9 u10 u11 u12 u13 u14 u15 u16 u17 u18 u19 u20 u21 : Value, a' = { tmps := #[.pointer none, .func (.func 22) #[.pointer none] #[], undef, undef, u4, u5, u6, u7, u8, u9, u10, u11, u12, u13, u14, u15, u16, u17, u18, u19, u20, u21], defers := [] } ∧ w = w') (fun _ _ => 0) rfl ?_ ?_
  · go_wp2_with fail
    refine (skip_nil 91 _).mono ?_
    rintro e w1 ⟨rfl, rfl⟩
    go_wp2_with fail
    go_step3
    exact ⟨rfl, _, _, _, _, _, _, _, _, _, _, _, _, _, _, _, _, _, _, rfl, rfl⟩
  · rintro a' w' ⟨u4, u5, u6, u7, u8, u9, u10, u11, u12, u13, u14, u15, u16, u17, u18, u19, u20, u21, rfl, rfl⟩
    go_wp2_with fail
    refine (spoil_nil _).mono ?_
    rintro e w2 ⟨rfl, rfl⟩
    go_wp2_with fail
    simp only [Exit.jump]
    go_ret
    exact ⟨rfl, rfl⟩

set_option maxHeartbeats 400000 in
theorem rdints_nil (w : World) :
    Calls Tryd.prog 27 #[.pointer none] w fun e w' => e = .returned (.slice none 0 0) ∧ w = w' := by
  go_enter Tryd.func27, Tryd.ntmps27
  go_wp2_with fail
  refine (elints_nil _).mono ?_
  rintro e w1 ⟨rfl, rfl⟩
  go_wp2_with fail
  go_ret
  exact ⟨rfl, rfl⟩

set_option maxHeartbeats 400000 in
theorem rdints_yes (b : Nat) (l r : List UInt8) (vs : List Int) (w : World) (E : Env w) (hb4 : 4 ≤ b) (hl : Short l) (h : RdAt w b l false) (hv : rdL rdI l = some (vs, r)) :
    Calls Tryd.prog 27 #[.pointer (some ⟨b, 0, none⟩)] w fun e w' => ∃ v, e = .returned v ∧ w'.ownsRow w.heap.size 3 1 v vs.length (ints vs) ∧ RdAt w' b r false ∧ w.grownBy w' (some b) := by
  have HV := Lib.hid hv
  clear hv
  go_enter Tryd.func27, Tryd.ntmps27
  go_wp2_with fail
  refine (elints_yes b l r vs _ E hb4 hl h HV.out).mono ?_
  rintro e w1 ⟨v, rfl, h1, h2, h3⟩
  go_wp2_with fail
  go_ret
  exact ⟨v, rfl, h1, h2, h3⟩

set_option maxHeartbeats 400000 in
theorem rdints_no (b : Nat) (l : List UInt8) (t : Bool) (w : World) (E : Env w) (hb4 : 4 ≤ b) (hl : Short l) (h : RdAt w b l t) (ht : t = true → l = []) (hv : rdL rdI l = none) :
    Calls Tryd.prog 27 #[.pointer (some ⟨b, 0, none⟩)] w (RdPost w b (.slice none 0 0) [] true) := by
  have HV := Lib.hid hv
  have HT := Lib.hid ht
  clear hv ht
  go_enter Tryd.func27, Tryd.ntmps27
  go_wp2_with fail
  refine (elints_no b l t _ E hb4 hl h HT.out HV.out).mono ?_
  rintro e w1 ⟨rfl, h2, h3⟩
  go_wp2_with fail
  go_ret
  exact ⟨rfl, h2, h3⟩

set_option maxRecDepth 100000 in
set_option maxHeartbeats 1000000 in
theorem elstrs_nil (w : World) :
    Calls Tryd.prog 49 #[.pointer none, .func (.func 24) #[.pointer none] #[]] w fun e w' => e = .returned (.slice none 0 0) ∧ w = w' := by
  go_enter Tryd.func49, Tryd.ntmps49
  go_wp2_with fail
  refine wp_scope_jumps 0 (fun a' w' => ∃ u4 u5 u6 u7 u8 u9 u10 u11 u12 u13 u14 u15 u16 u17 u18 u19 u20 u21 : Value, a' = { tmps := #[.pointer none, .func (.func 24) #[.pointer none] #[], undef, undef, u4, u5, u6, u7, u8, u9, u10, u11, u12, u13, u14, u15, u16, u17, u18, u19, u20, u21], defers := [] } ∧ w = w') (fun _ _ => 0) rfl ?_ ?_
  · go_wp2_with fail
    refine (skip_nil 91 _).mono ?_
    rintro e w1 ⟨rfl, rfl⟩
    go_wp2_with fail
    go_step3
    exact ⟨rfl, _, _, _, _, _, _, _, _, _, _, _, _, _, _, _, _, _, _, rfl, rfl⟩
  · rintro a' w' ⟨u4, u5, u6, u7, u8, u9, u10, u11, u12, u13, u14, u15, u16, u17, u18, u19, u20, u21, rfl, rfl⟩
    go_wp2_with fail
    refine (spoil_nil _).mono ?_
    rintro e w2 ⟨rfl, rfl⟩
    go_wp2_with fail
    simp only [Exit.jump]
    go_ret
    exact ⟨rfl, rfl⟩

set_option maxHeartbeats 400000 in
theorem rdstrs_nil (w : World) :
    Calls Tryd.prog 30 #[.pointer none] w fun e w' => e = .returned (.slice none 0 0) ∧ w = w' := by
  go_enter Tryd.func30, Tryd.ntmps30
  go_wp2_with fail
  refine (elstrs_nil _).mono ?_
  rintro e w1 ⟨rfl, rfl⟩
  go_wp2_with fail
  go_ret
  exact ⟨rfl, rfl⟩

set_option maxHeartbeats 400000 in
theorem rdstrs_yes (b : Nat) (l r : List UInt8) (vs : List (List UInt8)) (w : World) (E : Env w) (hb4 : 4 ≤ b) (hl : Short l) (h : RdAt w b l false) (hv : rdL rdT l = some (vs, r)) :
    Calls Tryd.prog 30 #[.pointer (some ⟨b, 0, none⟩)] w fun e w' => ∃ v, e = .returned v ∧ w'.ownsRow w.heap.size 9 1 v vs.length (strs vs) ∧ RdAt w' b r false ∧ w.grownBy w' (some b) := by
  have HV := Lib.hid hv
  clear hv
  go_enter Tryd.func30, Tryd.ntmps30
  go_wp2_with fail
  refine (elstrs_yes b l r vs _ E hb4 hl h HV.out).mono ?_
  rintro e w1 ⟨v, rfl, h1, h2, h3⟩
  go_wp2_with fail
  go_ret
  exact ⟨v, rfl, h1, h2, h3⟩

set_option maxHeartbeats 400000 in
theorem rdstrs_no (b : Nat) (l : List UInt8) (t : Bool) (w : World) (E : Env w) (hb4 : 4 ≤ b) (hl : Short l) (h : RdAt w b l t) (ht : t = true → l = []) (hv : rdL rdT l = none) :
    Calls Tryd.prog 30 #[.pointer (some ⟨b, 0, none⟩)] w (RdPost w b (.slice none 0 0) [] true) := by
  have HV := Lib.hid hv
  have HT := Lib.hid ht
  clear hv ht
  go_enter Tryd.func30, Tryd.ntmps30
  go_wp2_with fail
  refine (elstrs_no b l t _ E hb4 hl h HT.out HV.out).mono ?_
  rintro e w1 ⟨rfl, h2, h3⟩
  go_wp2_with fail
  go_ret
  exact ⟨rfl, h2, h3⟩

end Go.Proofs.YtjiljkiedidmeaaDoor
