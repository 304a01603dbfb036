/- The reference's reader: lists. -/
import Derived.Test.YtjiljkiedidmeaaDoorRText
namespace Go.Proofs.YtjiljkiedidmeaaDoor
open Go.RowKit Go.Lib

/-- A reader's position, out of its cell. -/
def cellPos (w : World) (b : Nat) : Nat := match w.cell? ⟨b, 1, none⟩ with | some (.int _ n) => n.toNat | _ => 0
theorem cellPos_of {w : World} {b k : Nat} {s : List UInt8} {t : Bool} (h : RefAt w b s k t) : cellPos w b = k := by
  unfold cellPos; rw [h.cell1]; simp

set_option maxRecDepth 100000 in
set_option maxHeartbeats 1000000 in
theorem rrints_yes (b k : Nat) (s r : List UInt8) (vs : List Int) (w : World) (hs : Short s) (h : RefAt w b s k false) (hv : rdL rdI (s.drop k) = some (vs, r)) :
    Calls Tryd.prog 28 #[.pointer (some ⟨b, 0, none⟩)] w fun e w' => ∃ v, w'.ownsRow w.heap.size 3 1 v vs.length (ints vs) ∧ RefOut w b v s r false e w' := by
  obtain ⟨i0, hi, hz0, hz1, hz2⟩ := info_parts info3
  have hbw := h.lt
  obtain ⟨q, hd, HE⟩ := rdL_some hv
  have HV := Lib.hid HE
  have HD := Lib.hid hd
  obtain ⟨hk1, -, hdq, -⟩ := at_drop hd
  have HQ := Lib.hid hdq
  clear HE hv hd hdq
  go_enter Tryd.func28, Tryd.ntmps28
  go_wp2_with fail
  refine (rbyte_yes b k s q 91 _ hs h HD.out).mono ?_
  rintro e w1 ⟨rfl, h1, g1⟩
  have o1 : w1.ownsRow w.heap.size 3 1 (.slice none 0 0) ([] : List Int).length (ints []) := World.ownsRow_nil _ _ _ _
  go_wp2_with fail
  go_loopw [3] (fun v wr => ∃ (acc us : List Int) (j : Nat), Hid (vs = acc ++ us) ∧ Hid (elems rdI (s.drop j) = some (us, r)) ∧ j ≤ s.length ∧ acc.length ≤ j ∧ RefAt wr b s j false ∧ wr.ownsRow w.heap.size 3 1 v acc.length (ints acc) ∧ w.grownBy wr (some b)) (fun _ wr => s.length - cellPos wr b)
  case atStart => exact ⟨[], vs, k + 1, rfl, by show _ = _; rw [HQ.out]; exact HV.out, by omega, by simp, h1, o1, g1⟩
  case round =>
    clear h1 o1 g1 HV HQ
    obtain ⟨acc, us, j, HA, HE, hj, hlen, h1, o1, g1⟩ := hrel
    have hcl := cellPos_of h1
    rw [hcl]
    clear hcl
    have hs1 := g1.size
    have hsl : s.length < 4294967281 := hs
    rcases elems_some fitsI HE.out with ⟨hc, rfl⟩ | ⟨hd, v, q2, us2, hr, rfl, he2, hq2⟩
    · have HC := Lib.hid hc
      obtain ⟨hj1, -, hj2, -⟩ := at_drop hc
      have HJ := Lib.hid hj2
      clear hc hj2
      go_wp2_with fail
      refine (rbyte_yes b j s r 93 _ hs h1 HC.out).mono ?_
      rintro e w2 ⟨rfl, h2, g2⟩
      have o2 := owns_grown o1 g2 hbw
      have g3 := grown_trans g1 g2
      have HA2 := Lib.hid (show vs = acc by rw [HA.out]; simp)
      clear HA HE
      go_wp2_with fail
      go_ret
      exact ⟨_, by rw [HA2.out]; exact o2, j + 1, by omega, fun _ => HJ.out, rfl, h2, g3⟩
    · have HR := Lib.hid hr
      have HE2 := Lib.hid he2
      have HA2 := Lib.hid (show vs = (acc ++ [v]) ++ us2 by rw [HA.out]; simp)
      clear hr he2 HA HE
      go_wp2_with fail
      refine (rbyte_not b j s false 93 _ hs hj h1 (by simpa [leftOf] using hd)).mono ?_
      rintro e w2 ⟨rfl, n, rfl⟩
      have gd := grows_drewN wr n
      have h2 := h1.later gd
      have g2 := grown_trans g1 (grown_of_grows gd (some b))
      have o2 := owns_grown o1 (grown_of_grows gd (some b)) hbw
      generalize wr.drewN n = w2 at *
      clear h1 g1 o1 gd hd
      go_wp2_with fail
      refine (rrint_yes b j s q2 v _ hs h2 HR.out).mono ?_
      rintro e w3 ⟨j2, hj2, hdr, rfl, h3, g3⟩
      have hjj : j < j2 := by
        have e1 := hdr rfl
        have e2 := congrArg List.length e1
        simp only [List.length_drop] at e2 hq2
        omega
      have HDR := Lib.hid (hdr rfl)
      have o3 := owns_grown o2 g3 hbw
      have g4 := grown_trans g2 g3
      have hs3 := g4.size
      have hb3 := h3.lt
      clear h2 o2 g2 g3 hdr
      go_wp2_with (at_builtin; refine wpList_append_own _ rfl _ _ 22 rfl w.heap.size 3 i0 _ 1 8 Tryd.underlying22 hi hz0 hz1 hz2 rfl (by decide) _ _ _ rfl (o3.alloc _) ⟨w3.heap.size, 0, none⟩ 1 1 [.int .i64 v] rfl rfl ?c1 ?c2 ?c3 ?c4 ?c5 ?_)
      case c1 =>
        intro j u hj
        match j, hj with
        | 0, hj => simp at hj; subst hj; simp [Addr.add]
      case c2 => intro u hu; simp at hu; subst hu; rfl
      case c3 => unfold maxLen; omega
      case c4 => omega
      case c5 => simp; omega
      intro v' w4 o4 g5 _
      have h4 : RefAt w4 b s j2 false := (g5.block b (by simp; omega) (fun e => own_ne o3 hbw e.symm)).trans (h3.later ((Below.refl _ _).alloc (Nat.le_refl _) _))
      have g6 : w.grownBy w4 (some b) := by
        refine ⟨g5.os.trans g4.os, g5.tape.trans g4.tape, g5.output.trans g4.output, by have := g5.size; simp at this; omega, fun k hk hne => ?_⟩
        rw [g5.block k (by simp; omega) (fun e => by have := (o3.lt k e.symm).1; omega)]
        exact (alloc_old _ _ k (by omega)).trans (g4.block k hk hne)
      rw [← ints_snoc] at o4
      have o5 : w4.ownsRow w.heap.size 3 1 v' (acc ++ [v]).length (ints (acc ++ [v])) := by rw [List.length_append]; exact o4
      clear h3 o3 g4 o4 g5
      go_wp2_with fail
      refine (rbad_any b j2 s false _ h4).mono ?_
      rintro e w5 ⟨rfl, rfl⟩
      have hcl := cellPos_of h4
      go_wp2_with fail
      go_roundw
      case rel => exact ⟨acc ++ [v], us2, j2, HA2.out, by show _ = _; rw [HDR.out]; exact HE2.out, hj2, by simp; omega, h4, o5, g6⟩
      case measure => omega

set_option maxRecDepth 100000 in
set_option maxHeartbeats 1000000 in
theorem rrstrs_yes (b k : Nat) (s r : List UInt8) (vs : List (List UInt8)) (w : World) (hs : Short s) (h : RefAt w b s k false) (hv : rdL rdT (s.drop k) = some (vs, r)) :
    Calls Tryd.prog 31 #[.pointer (some ⟨b, 0, none⟩)] w fun e w' => ∃ v, w'.ownsRow w.heap.size 9 1 v vs.length (strs vs) ∧ RefOut w b v s r false e w' := by
  obtain ⟨i0, hi, hz0, hz1, hz2⟩ := info_parts info9
  have hbw := h.lt
  obtain ⟨q, hd, HE⟩ := rdL_some hv
  have HV := Lib.hid HE
  have HD := Lib.hid hd
  obtain ⟨hk1, -, hdq, -⟩ := at_drop hd
  have HQ := Lib.hid hdq
  clear HE hv hd hdq
  go_enter Tryd.func31, Tryd.ntmps31
  go_wp2_with fail
  refine (rbyte_yes b k s q 91 _ hs h HD.out).mono ?_
  rintro e w1 ⟨rfl, h1, g1⟩
  have o1 : w1.ownsRow w.heap.size 9 1 (.slice none 0 0) ([] : List (List UInt8)).length (strs []) := World.ownsRow_nil _ _ _ _
  go_wp2_with fail
  go_loopw [3] (fun v wr => ∃ (acc us : List (List UInt8)) (j : Nat), Hid (vs = acc ++ us) ∧ Hid (elems rdT (s.drop j) = some (us, r)) ∧ j ≤ s.length ∧ acc.length ≤ j ∧ RefAt wr b s j false ∧ wr.ownsRow w.heap.size 9 1 v acc.length (strs acc) ∧ w.grownBy wr (some b)) (fun _ wr => s.length - cellPos wr b)
  case atStart => exact ⟨[], vs, k + 1, rfl, by show _ = _; rw [HQ.out]; exact HV.out, by omega, by simp, h1, o1, g1⟩
  case round =>
    clear h1 o1 g1 HV HQ
    obtain ⟨acc, us, j, HA, HE, hj, hlen, h1, o1, g1⟩ := hrel
    have hcl := cellPos_of h1
    rw [hcl]
    clear hcl
    have hs1 := g1.size
    have hsl : s.length < 4294967281 := hs
    rcases elems_some fitsT HE.out with ⟨hc, rfl⟩ | ⟨hd, v, q2, us2, hr, rfl, he2, hq2⟩
    · have HC := Lib.hid hc
      obtain ⟨hj1, -, hj2, -⟩ := at_drop hc
      have HJ := Lib.hid hj2
      clear hc hj2
      go_wp2_with fail
      refine (rbyte_yes b j s r 93 _ hs h1 HC.out).mono ?_
      rintro e w2 ⟨rfl, h2, g2⟩
      have o2 := owns_grown o1 g2 hbw
      have g3 := grown_trans g1 g2
      have HA2 := Lib.hid (show vs = acc by rw [HA.out]; simp)
      clear HA HE
      go_wp2_with fail
      go_ret
      exact ⟨_, by rw [HA2.out]; exact o2, j + 1, by omega, fun _ => HJ.out, rfl, h2, g3⟩
    · have HR := Lib.hid hr
      have HE2 := Lib.hid he2
      have HA2 := Lib.hid (show vs = (acc ++ [v]) ++ us2 by rw [HA.out]; simp)
      clear hr he2 HA HE
      go_wp2_with fail
      refine (rbyte_not b j s false 93 _ hs hj h1 (by simpa [leftOf] using hd)).mono ?_
      rintro e w2 ⟨rfl, n, rfl⟩
      have gd := grows_drewN wr n
      have h2 := h1.later gd
      have g2 := grown_trans g1 (grown_of_grows gd (some b))
      have o2 := owns_grown o1 (grown_of_grows gd (some b)) hbw
      generalize wr.drewN n = w2 at *
      clear h1 g1 o1 gd hd
      go_wp2_with fail
      refine (rrtext_yes b j s v q2 _ hs h2 HR.out).mono ?_
      rintro e w3 ⟨j2, hj2, hdr, rfl, h3, g3⟩
      have hjj : j < j2 := by
        have e1 := hdr rfl
        have e2 := congrArg List.length e1
        simp only [List.length_drop] at e2 hq2
        omega
      have HDR := Lib.hid (hdr rfl)
      have o3 := owns_grown o2 g3 hbw
      have g4 := grown_trans g2 g3
      have hs3 := g4.size
      have hb3 := h3.lt
      clear h2 o2 g2 g3 hdr
      go_wp2_with (at_builtin; refine wpList_append_own _ rfl _ _ 23 rfl w.heap.size 9 i0 _ 1 16 Tryd.underlying23 hi hz0 hz1 hz2 rfl (by decide) _ _ _ rfl (o3.alloc _) ⟨w3.heap.size, 0, none⟩ 1 1 [.string ⟨v.toArray⟩] rfl rfl ?c1 ?c2 ?c3 ?c4 ?c5 ?_)
      case c1 =>
        intro j u hj
        match j, hj with
        | 0, hj => simp at hj; subst hj; simp [Addr.add]
      case c2 => intro u hu; simp at hu; subst hu; rfl
      case c3 => unfold maxLen; omega
      case c4 => omega
      case c5 => simp; omega
      intro v' w4 o4 g5 _
      have h4 : RefAt w4 b s j2 false := (g5.block b (by simp; omega) (fun e => own_ne o3 hbw e.symm)).trans (h3.later ((Below.refl _ _).alloc (Nat.le_refl _) _))
      have g6 : w.grownBy w4 (some b) := by
        refine ⟨g5.os.trans g4.os, g5.tape.trans g4.tape, g5.output.trans g4.output, by have := g5.size; simp at this; omega, fun k hk hne => ?_⟩
        rw [g5.block k (by simp; omega) (fun e => by have := (o3.lt k e.symm).1; omega)]
        exact (alloc_old _ _ k (by omega)).trans (g4.block k hk hne)
      rw [← strs_snoc] at o4
      have o5 : w4.ownsRow w.heap.size 9 1 v' (acc ++ [v]).length (strs (acc ++ [v])) := by rw [List.length_append]; exact o4
      clear h3 o3 g4 o4 g5
      go_wp2_with fail
      refine (rbad_any b j2 s false _ h4).mono ?_
      rintro e w5 ⟨rfl, rfl⟩
      have hcl := cellPos_of h4
      go_wp2_with fail
      go_roundw
      case rel => exact ⟨acc ++ [v], us2, j2, HA2.out, by show _ = _; rw [HDR.out]; exact HE2.out, hj2, by simp; omega, h4, o5, g6⟩
      case measure => omega

set_option maxRecDepth 100000 in
set_option maxHeartbeats 1000000 in
theorem rrints_open (b k : Nat) (s : List UInt8) (t : Bool) (w : World) (hs : Short s) (hk : k ≤ s.length) (h : RefAt w b s k t) (hd : (leftOf s k t).head? ≠ some 91) :
    Calls Tryd.prog 28 #[.pointer (some ⟨b, 0, none⟩)] w (RefOut w b (.slice none 0 0) s [] true) := by
  have HD := Lib.hid hd
  clear hd
  go_enter Tryd.func28, Tryd.ntmps28
  go_wp2_with fail
  refine (rbyte_not b k s t 91 _ hs hk h HD.out).mono ?_
  rintro e w1 ⟨rfl, n, rfl⟩
  have g1 := grows_drewN w n
  have h1 := h.later g1
  generalize w.drewN n = w1 at *
  go_wp2_with fail
  refine (fail_any b k s t _ h1).mono ?_
  rintro e w2 ⟨rfl, h2, g2⟩
  have g3 := grown_trans (grown_of_grows g1 (some b)) g2
  go_wp2_with fail
  go_ret
  exact ⟨k, hk, (fun e => by cases e), rfl, h2, g3⟩

set_option maxRecDepth 100000 in
set_option maxHeartbeats 1000000 in
theorem rrints_fail (b k : Nat) (s q : List UInt8) (w : World) (hs : Short s) (h : RefAt w b s k false) (hd : s.drop k = 91 :: q) (hv : elems rdI q = none) :
    Calls Tryd.prog 28 #[.pointer (some ⟨b, 0, none⟩)] w (RefOut w b (.slice none 0 0) s [] true) := by
  obtain ⟨i0, hi, hz0, hz1, hz2⟩ := info_parts info3
  have hbw := h.lt
  have HV := Lib.hid hv
  have HD := Lib.hid hd
  obtain ⟨hk1, -, hdq, -⟩ := at_drop hd
  have HQ := Lib.hid hdq
  clear hv hd hdq
  go_enter Tryd.func28, Tryd.ntmps28
  go_wp2_with fail
  refine (rbyte_yes b k s q 91 _ hs h HD.out).mono ?_
  rintro e w1 ⟨rfl, h1, g1⟩
  have o1 : w1.ownsRow w.heap.size 3 1 (.slice none 0 0) 0 [] := World.ownsRow_nil _ _ _ _
  go_wp2_with fail
  go_loopw [3] (fun v wr => ∃ (m : Nat) (acc : List Value) (j : Nat), Hid (elems rdI (s.drop j) = none) ∧ j ≤ s.length ∧ m ≤ j ∧ RefAt wr b s j false ∧ wr.ownsRow w.heap.size 3 1 v m acc ∧ w.grownBy wr (some b)) (fun _ wr => s.length - cellPos wr b)
  case atStart => exact ⟨0, [], k + 1, by show _ = _; rw [HQ.out]; exact HV.out, by omega, by simp, h1, o1, g1⟩
  case round =>
    clear h1 o1 g1 HV HQ
    obtain ⟨m, acc, j, HE, hj, hlen, h1, o1, g1⟩ := hrel
    have hcl := cellPos_of h1
    rw [hcl]
    clear hcl
    have hs1 := g1.size
    have hsl : s.length < 4294967281 := hs
    obtain ⟨hd, hrr⟩ := elems_none fitsI HE.out
    have HRR := Lib.hid hrr
    clear HE hrr
    go_wp2_with fail
    refine (rbyte_not b j s false 93 _ hs hj h1 (by simpa [leftOf] using hd)).mono ?_
    rintro e w2 ⟨rfl, n, rfl⟩
    have gd := grows_drewN wr n
    have h2 := h1.later gd
    have g2 := grown_trans g1 (grown_of_grows gd (some b))
    have o2 := owns_grown o1 (grown_of_grows gd (some b)) hbw
    generalize wr.drewN n = w2 at *
    clear h1 g1 o1 gd hd
    go_wp2_with fail
    rcases HRR.out with hr | ⟨v, q2, hr, he2, hq2⟩
    · have HR := Lib.hid hr
      clear hr HRR
      refine (rrint_no b j s _ hs hj h2 HR.out).mono ?_
      rintro e w3 ⟨j2, hj2, -, rfl, h3, g3⟩
      have o3 := owns_grown o2 g3 hbw
      have g4 := grown_trans g2 g3
      have hs3 := g4.size
      have hb3 := h3.lt
      clear h2 o2 g2 g3
      go_wp2_with (at_builtin; refine wpList_append_own _ rfl _ _ 22 rfl w.heap.size 3 i0 _ 1 8 Tryd.underlying22 hi hz0 hz1 hz2 rfl (by decide) _ _ _ rfl (o3.alloc _) ⟨w3.heap.size, 0, none⟩ 1 1 [.int .i64 0] rfl rfl ?c1 ?c2 ?c3 ?c4 ?c5 ?_)
      case c1 =>
        intro j u hj
        match j, hj with
        | 0, hj => simp at hj; subst hj; simp [Addr.add]
      case c2 => intro u hu; simp at hu; subst hu; rfl
      case c3 => unfold maxLen; omega
      case c4 => omega
      case c5 => simp; omega
      intro v' w4 o4 g5 _
      have h4 : RefAt w4 b s j2 true := (g5.block b (by simp; omega) (fun e => own_ne o3 hbw e.symm)).trans (h3.later ((Below.refl _ _).alloc (Nat.le_refl _) _))
      have g6 : w.grownBy w4 (some b) := by
        refine ⟨g5.os.trans g4.os, g5.tape.trans g4.tape, g5.output.trans g4.output, by have := g5.size; simp at this; omega, fun k hk hne => ?_⟩
        rw [g5.block k (by simp; omega) (fun e => by have := (o3.lt k e.symm).1; omega)]
        exact (alloc_old _ _ k (by omega)).trans (g4.block k hk hne)
      clear h3 o3 g4 o4 g5
      go_wp2_with fail
      refine (rbad_any b j2 s true _ h4).mono ?_
      rintro e w5 ⟨rfl, rfl⟩
      go_wp2_with fail
      go_ret
      exact ⟨j2, hj2, (fun e => by cases e), rfl, h4, g6⟩
    · have HR := Lib.hid hr
      have HE2 := Lib.hid he2
      clear hr he2 HRR
      refine (rrint_yes b j s q2 v _ hs h2 HR.out).mono ?_
      rintro e w3 ⟨j2, hj2, hdr, rfl, h3, g3⟩
      have hjj : j < j2 := by
        have e1 := hdr rfl
        have e2 := congrArg List.length e1
        simp only [List.length_drop] at e2 hq2
        omega
      have HDR := Lib.hid (hdr rfl)
      have o3 := owns_grown o2 g3 hbw
      have g4 := grown_trans g2 g3
      have hs3 := g4.size
      have hb3 := h3.lt
      clear h2 o2 g2 g3 hdr
      go_wp2_with (at_builtin; refine wpList_append_own _ rfl _ _ 22 rfl w.heap.size 3 i0 _ 1 8 Tryd.underlying22 hi hz0 hz1 hz2 rfl (by decide) _ _ _ rfl (o3.alloc _) ⟨w3.heap.size, 0, none⟩ 1 1 [.int .i64 v] rfl rfl ?c1 ?c2 ?c3 ?c4 ?c5 ?_)
      case c1 =>
        intro j u hj
        match j, hj with
        | 0, hj => simp at hj; subst hj; simp [Addr.add]
      case c2 => intro u hu; simp at hu; subst hu; rfl
      case c3 => unfold maxLen; omega
      case c4 => omega
      case c5 => simp; omega
      intro v' w4 o4 g5 _
      have h4 : RefAt w4 b s j2 false := (g5.block b (by simp; omega) (fun e => own_ne o3 hbw e.symm)).trans (h3.later ((Below.refl _ _).alloc (Nat.le_refl _) _))
      have g6 : w.grownBy w4 (some b) := by
        refine ⟨g5.os.trans g4.os, g5.tape.trans g4.tape, g5.output.trans g4.output, by have := g5.size; simp at this; omega, fun k hk hne => ?_⟩
        rw [g5.block k (by simp; omega) (fun e => by have := (o3.lt k e.symm).1; omega)]
        exact (alloc_old _ _ k (by omega)).trans (g4.block k hk hne)
      clear h3 o3 g4 g5
      go_wp2_with fail
      refine (rbad_any b j2 s false _ h4).mono ?_
      rintro e w5 ⟨rfl, rfl⟩
      have hcl := cellPos_of h4
      go_wp2_with fail
      go_roundw
      case rel => exact ⟨m + 1, _, j2, by show _ = _; rw [HDR.out]; exact HE2.out, hj2, by omega, h4, o4, g6⟩
      case measure => omega

theorem rrints_no (b k : Nat) (s : List UInt8) (t : Bool) (w : World) (hs : Short s) (hk : k ≤ s.length) (h : RefAt w b s k t) (hv : rdL rdI (leftOf s k t) = none) :
    Calls Tryd.prog 28 #[.pointer (some ⟨b, 0, none⟩)] w (RefOut w b (.slice none 0 0) s [] true) := by
  rcases rdL_none hv with hd | ⟨q, hq, he⟩
  · exact rrints_open b k s t w hs hk h hd
  · cases t with
    | true => simp [leftOf] at hq
    | false => exact rrints_fail b k s q w hs h (by simpa [leftOf] using hq) he

set_option maxRecDepth 100000 in
set_option maxHeartbeats 1000000 in
theorem rrstrs_open (b k : Nat) (s : List UInt8) (t : Bool) (w : World) (hs : Short s) (hk : k ≤ s.length) (h : RefAt w b s k t) (hd : (leftOf s k t).head? ≠ some 91) :
    Calls Tryd.prog 31 #[.pointer (some ⟨b, 0, none⟩)] w (RefOut w b (.slice none 0 0) s [] true) := by
  have HD := Lib.hid hd
  clear hd
  go_enter Tryd.func31, Tryd.ntmps31
  go_wp2_with fail
  refine (rbyte_not b k s t 91 _ hs hk h HD.out).mono ?_
  rintro e w1 ⟨rfl, n, rfl⟩
  have g1 := grows_drewN w n
  have h1 := h.later g1
  generalize w.drewN n = w1 at *
  go_wp2_with fail
  refine (fail_any b k s t _ h1).mono ?_
  rintro e w2 ⟨rfl, h2, g2⟩
  have g3 := grown_trans (grown_of_grows g1 (some b)) g2
  go_wp2_with fail
  go_ret
  exact ⟨k, hk, (fun e => by cases e), rfl, h2, g3⟩

set_option maxRecDepth 100000 in
set_option maxHeartbeats 1000000 in
theorem rrstrs_fail (b k : Nat) (s q : List UInt8) (w : World) (hs : Short s) (h : RefAt w b s k false) (hd : s.drop k = 91 :: q) (hv : elems rdT q = none) :
    Calls Tryd.prog 31 #[.pointer (some ⟨b, 0, none⟩)] w (RefOut w b (.slice none 0 0) s [] true) := by
  obtain ⟨i0, hi, hz0, hz1, hz2⟩ := info_parts info9
  have hbw := h.lt
  have HV := Lib.hid hv
  have HD := Lib.hid hd
  obtain ⟨hk1, -, hdq, -⟩ := at_drop hd
  have HQ := Lib.hid hdq
  clear hv hd hdq
  go_enter Tryd.func31, Tryd.ntmps31
  go_wp2_with fail
  refine (rbyte_yes b k s q 91 _ hs h HD.out).mono ?_
  rintro e w1 ⟨rfl, h1, g1⟩
  have o1 : w1.ownsRow w.heap.size 9 1 (.slice none 0 0) 0 [] := World.ownsRow_nil _ _ _ _
  go_wp2_with fail
  go_loopw [3] (fun v wr => ∃ (m : Nat) (acc : List Value) (j : Nat), Hid (elems rdT (s.drop j) = none) ∧ j ≤ s.length ∧ m ≤ j ∧ RefAt wr b s j false ∧ wr.ownsRow w.heap.size 9 1 v m acc ∧ w.grownBy wr (some b)) (fun _ wr => s.length - cellPos wr b)
  case atStart => exact ⟨0, [], k + 1, by show _ = _; rw [HQ.out]; exact HV.out, by omega, by simp, h1, o1, g1⟩
  case round =>
    clear h1 o1 g1 HV HQ
    obtain ⟨m, acc, j, HE, hj, hlen, h1, o1, g1⟩ := hrel
    have hcl := cellPos_of h1
    rw [hcl]
    clear hcl
    have hs1 := g1.size
    have hsl : s.length < 4294967281 := hs
    obtain ⟨hd, hrr⟩ := elems_none fitsT HE.out
    have HRR := Lib.hid hrr
    clear HE hrr
    go_wp2_with fail
    refine (rbyte_not b j s false 93 _ hs hj h1 (by simpa [leftOf] using hd)).mono ?_
    rintro e w2 ⟨rfl, n, rfl⟩
    have gd := grows_drewN wr n
    have h2 := h1.later gd
    have g2 := grown_trans g1 (grown_of_grows gd (some b))
    have o2 := owns_grown o1 (grown_of_grows gd (some b)) hbw
    generalize wr.drewN n = w2 at *
    clear h1 g1 o1 gd hd
    go_wp2_with fail
    rcases HRR.out with hr | ⟨v, q2, hr, he2, hq2⟩
    · have HR := Lib.hid hr
      clear hr HRR
      refine (rrtext_no b j s _ hs hj h2 HR.out).mono ?_
      rintro e w3 ⟨j2, hj2, -, rfl, h3, g3⟩
      have o3 := owns_grown o2 g3 hbw
      have g4 := grown_trans g2 g3
      have hs3 := g4.size
      have hb3 := h3.lt
      clear h2 o2 g2 g3
      go_wp2_with (at_builtin; refine wpList_append_own _ rfl _ _ 23 rfl w.heap.size 9 i0 _ 1 16 Tryd.underlying23 hi hz0 hz1 hz2 rfl (by decide) _ _ _ rfl (o3.alloc _) ⟨w3.heap.size, 0, none⟩ 1 1 [.string ⟨#[]⟩] rfl rfl ?c1 ?c2 ?c3 ?c4 ?c5 ?_)
      case c1 =>
        intro j u hj
        match j, hj with
        | 0, hj => simp at hj; subst hj; simp [Addr.add]
      case c2 => intro u hu; simp at hu; subst hu; rfl
      case c3 => unfold maxLen; omega
      case c4 => omega
      case c5 => simp; omega
      intro v' w4 o4 g5 _
      have h4 : RefAt w4 b s j2 true := (g5.block b (by simp; omega) (fun e => own_ne o3 hbw e.symm)).trans (h3.later ((Below.refl _ _).alloc (Nat.le_refl _) _))
      have g6 : w.grownBy w4 (some b) := by
        refine ⟨g5.os.trans g4.os, g5.tape.trans g4.tape, g5.output.trans g4.output, by have := g5.size; simp at this; omega, fun k hk hne => ?_⟩
        rw [g5.block k (by simp; omega) (fun e => by have := (o3.lt k e.symm).1; omega)]
        exact (alloc_old _ _ k (by omega)).trans (g4.block k hk hne)
      clear h3 o3 g4 o4 g5
      go_wp2_with fail
      refine (rbad_any b j2 s true _ h4).mono ?_
      rintro e w5 ⟨rfl, rfl⟩
      go_wp2_with fail
      go_ret
      exact ⟨j2, hj2, (fun e => by cases e), rfl, h4, g6⟩
    · have HR := Lib.hid hr
      have HE2 := Lib.hid he2
      clear hr he2 HRR
      refine (rrtext_yes b j s v q2 _ hs h2 HR.out).mono ?_
      rintro e w3 ⟨j2, hj2, hdr, rfl, h3, g3⟩
      have hjj : j < j2 := by
        have e1 := hdr rfl
        have e2 := congrArg List.length e1
        simp only [List.length_drop] at e2 hq2
        omega
      have HDR := Lib.hid (hdr rfl)
      have o3 := owns_grown o2 g3 hbw
      have g4 := grown_trans g2 g3
      have hs3 := g4.size
      have hb3 := h3.lt
      clear h2 o2 g2 g3 hdr
      go_wp2_with (at_builtin; refine wpList_append_own _ rfl _ _ 23 rfl w.heap.size 9 i0 _ 1 16 Tryd.underlying23 hi hz0 hz1 hz2 rfl (by decide) _ _ _ rfl (o3.alloc _) ⟨w3.heap.size, 0, none⟩ 1 1 [.string ⟨v.toArray⟩] rfl rfl ?c1 ?c2 ?c3 ?c4 ?c5 ?_)
      case c1 =>
        intro j u hj
        match j, hj with
        | 0, hj => simp at hj; subst hj; simp [Addr.add]
      case c2 => intro u hu; simp at hu; subst hu; rfl
      case c3 => unfold maxLen; omega
      case c4 => omega
      case c5 => simp; omega
      intro v' w4 o4 g5 _
      have h4 : RefAt w4 b s j2 false := (g5.block b (by simp; omega) (fun e => own_ne o3 hbw e.symm)).trans (h3.later ((Below.refl _ _).alloc (Nat.le_refl _) _))
      have g6 : w.grownBy w4 (some b) := by
        refine ⟨g5.os.trans g4.os, g5.tape.trans g4.tape, g5.output.trans g4.output, by have := g5.size; simp at this; omega, fun k hk hne => ?_⟩
        rw [g5.block k (by simp; omega) (fun e => by have := (o3.lt k e.symm).1; omega)]
        exact (alloc_old _ _ k (by omega)).trans (g4.block k hk hne)
      clear h3 o3 g4 g5
      go_wp2_with fail
      refine (rbad_any b j2 s false _ h4).mono ?_
      rintro e w5 ⟨rfl, rfl⟩
      have hcl := cellPos_of h4
      go_wp2_with fail
      go_roundw
      case rel => exact ⟨m + 1, _, j2, by show _ = _; rw [HDR.out]; exact HE2.out, hj2, by omega, h4, o4, g6⟩
      case measure => omega

theorem rrstrs_no (b k : Nat) (s : List UInt8) (t : Bool) (w : World) (hs : Short s) (hk : k ≤ s.length) (h : RefAt w b s k t) (hv : rdL rdT (leftOf s k t) = none) :
    Calls Tryd.prog 31 #[.pointer (some ⟨b, 0, none⟩)] w (RefOut w b (.slice none 0 0) s [] true) := by
  rcases rdL_none hv with hd | ⟨q, hq, he⟩
  · exact rrstrs_open b k s t w hs hk h hd
  · cases t with
    | true => simp [leftOf] at hq
    | false => exact rrstrs_fail b k s q w hs h (by simpa [leftOf] using hq) he

end Go.Proofs.YtjiljkiedidmeaaDoor
