/- The reader of wire: the decoding of lists, by the generic function at ints and at strings. -/
import Derived.Test.YtjiljkiedidmeaaDoorRead
namespace Go.Proofs.YtjiljkiedidmeaaDoor
open Go.RowKit Go.Lib

theorem info3 : (Tryd.prog.info? 3).map (fun i => (i.zero, i.size, i.bytes)) = some (some (.int .i64 0), 1, 8) := by kernel_rfl

/-- How much a reader has left, out of its cell. -/
def cellLen (w : World) (b : Nat) : Nat := match w.cell? ⟨b, 0, none⟩ with | some (.string s) => s.size | _ => 0
theorem cellLen_of {w : World} {b : Nat} {l : List UInt8} {t : Bool} (h : RdAt w b l t) : cellLen w b = l.length := by
  unfold cellLen; rw [h.cell0]; exact size_of_list l

theorem owns_grown {w w' : World} {B b e n : Nat} {v : Value} {xs : List Value} (h : w.ownsRow B e 1 v n xs) (hg : w.grownBy w' (some b)) (hb : b < B) : w'.ownsRow B e 1 v n xs :=
  h.kept hg (.inr fun e => by have := (h.lt b e).1; omega)
theorem own_ne {w : World} {B b e n : Nat} {v : Value} {xs : List Value} (h : w.ownsRow B e 1 v n xs) (hb : b < B) : v.ownBlock ≠ some b := fun e => by have := (h.lt b e).1; omega

theorem rdL_none {α : Type} {rd : List UInt8 → Option (α × List UInt8)} {l : List UInt8} (h : rdL rd l = none) : l.head? ≠ some 91 ∨ ∃ q, l = 91 :: q ∧ elems rd q = none := by
  cases l with
  | nil => exact .inl (by simp)
  | cons c q =>
    unfold rdL at h
    split at h
    · rename_i hd
      simp only [List.head?_cons, Option.some.injEq] at hd
      subst hd
      exact .inr ⟨q, rfl, by simpa using h⟩
    · rename_i hd; exact .inl hd
theorem rdL_some {α : Type} {rd : List UInt8 → Option (α × List UInt8)} {l : List UInt8} {p : List α × List UInt8} (h : rdL rd l = some p) : ∃ q, l = 91 :: q ∧ elems rd q = some p := by
  cases l with
  | nil => simp [rdL] at h
  | cons c q =>
    unfold rdL at h
    split at h
    · rename_i hd
      simp only [List.head?_cons, Option.some.injEq] at hd
      subst hd
      exact ⟨q, rfl, by simpa using h⟩
    · cases h
/-- A list's decoding, one step on. -/
theorem elems_some {α : Type} {rd : List UInt8 → Option (α × List UInt8)} {enc : α → List UInt8} {ok : α → Prop} (F : Fits rd enc ok) {l r : List UInt8} {vs : List α} (h : elems rd l = some (vs, r)) :
    (l = 93 :: r ∧ vs = []) ∨ (l.head? ≠ some 93 ∧ ∃ v q us, rd l = some (v, q) ∧ vs = v :: us ∧ elems rd q = some (us, r) ∧ q.length < l.length) := by
  by_cases hd : l.head? = some 93
  · cases l with
    | nil => simp at hd
    | cons c l =>
      simp only [List.head?_cons, Option.some.injEq] at hd
      subst hd
      rw [elems_close] at h
      simp only [Option.some.injEq, Prod.mk.injEq] at h
      obtain ⟨rfl, rfl⟩ := h
      exact .inl ⟨rfl, rfl⟩
  · cases hr : rd l with
    | none => rw [elems_bad rd hd hr] at h; cases h
    | some p =>
      obtain ⟨v, q⟩ := p
      rw [elems_step F hd hr] at h
      obtain ⟨⟨us, s⟩, h2, h3⟩ := Option.map_eq_some_iff.1 h
      simp only [Prod.mk.injEq] at h3
      obtain ⟨rfl, rfl⟩ := h3
      exact .inr ⟨hd, v, q, us, rfl, rfl, h2, F.less hr⟩
theorem elems_none {α : Type} {rd : List UInt8 → Option (α × List UInt8)} {enc : α → List UInt8} {ok : α → Prop} (F : Fits rd enc ok) {l : List UInt8} (h : elems rd l = none) :
    l.head? ≠ some 93 ∧ (rd l = none ∨ ∃ v q, rd l = some (v, q) ∧ elems rd q = none ∧ q.length < l.length) := by
  by_cases hd : l.head? = some 93
  · cases l with
    | nil => simp at hd
    | cons c l =>
      simp only [List.head?_cons, Option.some.injEq] at hd
      subst hd
      rw [elems_close] at h
      cases h
  · refine ⟨hd, ?_⟩
    cases hr : rd l with
    | none => exact .inl rfl
    | some p =>
      obtain ⟨v, q⟩ := p
      rw [elems_step F hd hr, Option.map_eq_none_iff] at h
      exact .inr ⟨v, q, rfl, h, F.less hr⟩
theorem ints_snoc (l : List Int) (n : Int) : ints (l ++ [n]) = ints l ++ [.int .i64 n] := by simp [ints]
theorem strs_snoc (l : List (List UInt8)) (n : List UInt8) : strs (l ++ [n]) = strs l ++ [.string ⟨n.toArray⟩] := by simp [strs, str]

set_option maxRecDepth 100000 in
set_option maxHeartbeats 1000000 in
theorem elints_yes (b : Nat) (l r : List UInt8) (vs : List Int) (w : World) (E : Env w) (hb4 : 4 ≤ b) (hl : Short l) (h : RdAt w b l false) (hv : rdL rdI l = some (vs, r)) :
    Calls Tryd.prog 47 #[.pointer (some ⟨b, 0, none⟩), .func (.func 22) #[.pointer (some ⟨b, 0, none⟩)] #[]] w fun e w' => ∃ v, e = .returned v ∧ w'.ownsRow w.heap.size 3 1 v vs.length (ints vs) ∧ RdAt w' b r false ∧ w.grownBy w' (some b) := by
  obtain ⟨i0, hi, hz0, hz1, hz2⟩ := info_parts info3
  have hbw := h.lt
  obtain ⟨q, rfl, HE⟩ := rdL_some hv
  have HV := Lib.hid HE
  clear HE hv
  have hlq : q.length + 1 < 4294967281 := hl
  go_enter Tryd.func47, Tryd.ntmps47
  go_wp2_with fail
  go_step3
  go_wp2_with fail
  refine (skip_yes b 91 q false _ (by omega) h).mono ?_
  rintro e w1 ⟨rfl, h1, g1⟩
  have o1 : w1.ownsRow w.heap.size 3 1 (.slice none 0 0) ([] : List Int).length (ints []) := World.ownsRow_nil _ _ _ _
  go_wp2_with fail
  go_loopw [5] (fun v wr => ∃ (acc us : List Int) (rest : List UInt8), Hid (vs = acc ++ us) ∧ Hid (elems rdI rest = some (us, r)) ∧ acc.length + rest.length ≤ q.length ∧ RdAt wr b rest false ∧ wr.ownsRow w.heap.size 3 1 v acc.length (ints acc) ∧ w.grownBy wr (some b)) (fun _ wr => cellLen wr b)
  case atStart => exact ⟨[], vs, q, rfl, HV.out, by simp, h1, o1, g1⟩
  case round =>
    clear h1 o1 g1 HV
    obtain ⟨acc, us, rest, HA, HE, hlen, h1, o1, g1⟩ := hrel
    have hcl := cellLen_of h1
    rw [hcl]
    clear hcl
    have hs1 := g1.size
    rcases elems_some fitsI HE.out with ⟨rfl, rfl⟩ | ⟨hd, v, q2, us2, hr, rfl, he2, hq2⟩
    · simp only [List.length_cons] at hlen
      go_wp2_with fail
      refine (skip_yes b 93 r false _ (by omega) h1).mono ?_
      rintro e w2 ⟨rfl, h2, g2⟩
      have o2 := owns_grown o1 g2 hbw
      have g3 := grown_trans g1 g2
      have HA2 := Lib.hid (show vs = acc by rw [HA.out]; simp)
      clear HA HE
      go_wp2_with fail
      rw [Exit.noGoto_ret]
      go_ret
      exact ⟨_, rfl, by rw [HA2.out]; exact o2, h2, g3⟩
    · have HR := Lib.hid hr
      have HE2 := Lib.hid he2
      have HA2 := Lib.hid (show vs = (acc ++ [v]) ++ us2 by rw [HA.out]; simp)
      clear hr he2 HA HE
      go_wp2_with fail
      refine (skip_not b 93 rest false _ hd h1).mono ?_
      rintro e w2 ⟨rfl, rfl⟩
      go_wp2_with fail
      refine (rdint_yes b rest q2 false v _ (E.grown g1 hb4) (by unfold Short; omega) h1 HR.out).mono ?_
      rintro e w2 ⟨rfl, h2, g2⟩
      have o2 := owns_grown o1 g2 hbw
      have g3 := grown_trans g1 g2
      have hs2 := g2.size
      have hb2 := h2.lt
      clear h1 o1 g1 g2 hd
      go_wp2_with (at_builtin; refine wpList_append_own _ rfl _ _ 22 rfl w.heap.size 3 i0 _ 1 8 Tryd.underlying22 hi hz0 hz1 hz2 rfl (by decide) _ _ _ rfl (o2.alloc _) ⟨w2.heap.size, 0, none⟩ 1 1 [.int .i64 v] rfl rfl ?c1 ?c2 ?c3 ?c4 ?c5 ?_)
      case c1 =>
        intro j u hj
        match j, hj with
        | 0, hj => simp at hj; subst hj; simp [Addr.add]
      case c2 => intro u hu; simp at hu; subst hu; rfl
      case c3 => unfold maxLen; omega
      case c4 => omega
      case c5 => simp; omega
      intro v' w3 o3 g4 _
      have h3 : RdAt w3 b q2 false := (g4.block b (by simp; omega) (fun e => own_ne o2 hbw e.symm)).trans (h2.later ((Below.refl _ _).alloc (Nat.le_refl _) _))
      have g5 : w.grownBy w3 (some b) := by
        refine ⟨g4.os.trans g3.os, g4.tape.trans g3.tape, g4.output.trans g3.output, by have := g4.size; simp at this; omega, fun k hk hne => ?_⟩
        rw [g4.block k (by simp; omega) (fun e => by have := (o2.lt k e.symm).1; omega)]
        exact (alloc_old _ _ k (by omega)).trans (g3.block k hk hne)
      rw [← ints_snoc] at o3
      have o4 : w3.ownsRow w.heap.size 3 1 v' (acc ++ [v]).length (ints (acc ++ [v])) := by rw [List.length_append]; exact o3
      clear h2 o2 g3 o3 g4
      go_wp2_with fail
      refine (bad_any b q2 false _ h3).mono ?_
      rintro e w4 ⟨rfl, rfl⟩
      have hcl := cellLen_of h3
      go_wp2_with fail
      go_roundw
      case rel => exact ⟨acc ++ [v], us2, q2, HA2.out, HE2.out, by simp; omega, h3, o4, g5⟩
      case measure => omega

set_option maxRecDepth 100000 in
set_option maxHeartbeats 1000000 in
theorem elstrs_yes (b : Nat) (l r : List UInt8) (vs : List (List UInt8)) (w : World) (E : Env w) (hb4 : 4 ≤ b) (hl : Short l) (h : RdAt w b l false) (hv : rdL rdT l = some (vs, r)) :
    Calls Tryd.prog 49 #[.pointer (some ⟨b, 0, none⟩), .func (.func 24) #[.pointer (some ⟨b, 0, none⟩)] #[]] w fun e w' => ∃ v, e = .returned v ∧ w'.ownsRow w.heap.size 9 1 v vs.length (strs vs) ∧ RdAt w' b r false ∧ w.grownBy w' (some b) := by
  obtain ⟨i0, hi, hz0, hz1, hz2⟩ := info_parts info9
  have hbw := h.lt
  obtain ⟨q, rfl, HE⟩ := rdL_some hv
  have HV := Lib.hid HE
  clear HE hv
  have hlq : q.length + 1 < 4294967281 := hl
  go_enter Tryd.func49, Tryd.ntmps49
  go_wp2_with fail
  go_step3
  go_wp2_with fail
  refine (skip_yes b 91 q false _ (by omega) h).mono ?_
  rintro e w1 ⟨rfl, h1, g1⟩
  have o1 : w1.ownsRow w.heap.size 9 1 (.slice none 0 0) ([] : List (List UInt8)).length (strs []) := World.ownsRow_nil _ _ _ _
  go_wp2_with fail
  go_loopw [5] (fun v wr => ∃ (acc us : List (List UInt8)) (rest : List UInt8), Hid (vs = acc ++ us) ∧ Hid (elems rdT rest = some (us, r)) ∧ acc.length + rest.length ≤ q.length ∧ RdAt wr b rest false ∧ wr.ownsRow w.heap.size 9 1 v acc.length (strs acc) ∧ w.grownBy wr (some b)) (fun _ wr => cellLen wr b)
  case atStart => exact ⟨[], vs, q, rfl, HV.out, by simp, h1, o1, g1⟩
  case round =>
    clear h1 o1 g1 HV
    obtain ⟨acc, us, rest, HA, HE, hlen, h1, o1, g1⟩ := hrel
    have hcl := cellLen_of h1
    rw [hcl]
    clear hcl
    have hs1 := g1.size
    rcases elems_some fitsT HE.out with ⟨rfl, rfl⟩ | ⟨hd, v, q2, us2, hr, rfl, he2, hq2⟩
    · simp only [List.length_cons] at hlen
      go_wp2_with fail
      refine (skip_yes b 93 r false _ (by omega) h1).mono ?_
      rintro e w2 ⟨rfl, h2, g2⟩
      have o2 := owns_grown o1 g2 hbw
      have g3 := grown_trans g1 g2
      have HA2 := Lib.hid (show vs = acc by rw [HA.out]; simp)
      clear HA HE
      go_wp2_with fail
      rw [Exit.noGoto_ret]
      go_ret
      exact ⟨_, rfl, by rw [HA2.out]; exact o2, h2, g3⟩
    · have HR := Lib.hid hr
      have HE2 := Lib.hid he2
      have HA2 := Lib.hid (show vs = (acc ++ [v]) ++ us2 by rw [HA.out]; simp)
      clear hr he2 HA HE
      go_wp2_with fail
      refine (skip_not b 93 rest false _ hd h1).mono ?_
      rintro e w2 ⟨rfl, rfl⟩
      go_wp2_with fail
      refine (rdtext_yes b rest v q2 false _ (E.grown g1 hb4) (by unfold Short; omega) h1 HR.out).mono ?_
      rintro e w2 ⟨rfl, h2, g2⟩
      have o2 := owns_grown o1 g2 hbw
      have g3 := grown_trans g1 g2
      have hs2 := g2.size
      have hb2 := h2.lt
      clear h1 o1 g1 g2 hd
      go_wp2_with (at_builtin; refine wpList_append_own _ rfl _ _ 23 rfl w.heap.size 9 i0 _ 1 16 Tryd.underlying23 hi hz0 hz1 hz2 rfl (by decide) _ _ _ rfl (o2.alloc _) ⟨w2.heap.size, 0, none⟩ 1 1 [.string ⟨v.toArray⟩] rfl rfl ?c1 ?c2 ?c3 ?c4 ?c5 ?_)
      case c1 =>
        intro j u hj
        match j, hj with
        | 0, hj => simp at hj; subst hj; simp [Addr.add]
      case c2 => intro u hu; simp at hu; subst hu; rfl
      case c3 => unfold maxLen; omega
      case c4 => omega
      case c5 => simp; omega
      intro v' w3 o3 g4 _
      have h3 : RdAt w3 b q2 false := (g4.block b (by simp; omega) (fun e => own_ne o2 hbw e.symm)).trans (h2.later ((Below.refl _ _).alloc (Nat.le_refl _) _))
      have g5 : w.grownBy w3 (some b) := by
        refine ⟨g4.os.trans g3.os, g4.tape.trans g3.tape, g4.output.trans g3.output, by have := g4.size; simp at this; omega, fun k hk hne => ?_⟩
        rw [g4.block k (by simp; omega) (fun e => by have := (o2.lt k e.symm).1; omega)]
        exact (alloc_old _ _ k (by omega)).trans (g3.block k hk hne)
      rw [← strs_snoc] at o3
      have o4 : w3.ownsRow w.heap.size 9 1 v' (acc ++ [v]).length (strs (acc ++ [v])) := by rw [List.length_append]; exact o3
      clear h2 o2 g3 o3 g4
      go_wp2_with fail
      refine (bad_any b q2 false _ h3).mono ?_
      rintro e w4 ⟨rfl, rfl⟩
      have hcl := cellLen_of h3
      go_wp2_with fail
      go_roundw
      case rel => exact ⟨acc ++ [v], us2, q2, HA2.out, HE2.out, by simp; omega, h3, o4, g5⟩
      case measure => omega

end Go.Proofs.YtjiljkiedidmeaaDoor
