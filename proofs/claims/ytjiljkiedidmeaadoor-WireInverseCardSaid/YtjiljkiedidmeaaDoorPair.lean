/- Reading, either reader: the answer and what is left are one function of the bytes. -/
import Derived.Test.YtjiljkiedidmeaaDoorDec
import Derived.Test.YtjiljkiedidmeaaDoorRElems
import Derived.Test.YtjiljkiedidmeaaDoorSane
import Derived.Maps.OwnRows
namespace Go.Proofs.YtjiljkiedidmeaaDoor
open Go.RowKit Go.Lib

/-- What a decoder of bytes answers, what it leaves, and whether it is broken then. -/
def outOf {α : Type} (d : α) (rd : List UInt8 → Option (α × List UInt8)) (l : List UInt8) : α × List UInt8 × Bool :=
  match rd l with
  | some (v, r) => (v, r, false)
  | none => (d, [], true)

theorem outOf_some {α : Type} {d : α} {rd : List UInt8 → Option (α × List UInt8)} {l r : List UInt8} {v : α} (h : rd l = some (v, r)) : outOf d rd l = (v, r, false) := by unfold outOf; rw [h]
theorem outOf_none {α : Type} {d : α} {rd : List UInt8 → Option (α × List UInt8)} {l : List UInt8} (h : rd l = none) : outOf d rd l = (d, [], true) := by unfold outOf; rw [h]
theorem outOf_left {α : Type} {d : α} {rd : List UInt8 → Option (α × List UInt8)} (l : List UInt8) (ht : (outOf d rd l).2.2 = true) : (outOf d rd l).2.1 = [] := by
  cases h : rd l with
  | none => rw [outOf_none h]
  | some p => obtain ⟨v, r⟩ := p; rw [outOf_some h] at ht; cases ht
theorem outOf_short {α : Type} {d : α} {rd : List UInt8 → Option (α × List UInt8)} {enc : α → List UInt8} {ok : α → Prop} (F : Fits rd enc ok) {l : List UInt8} (hl : Short l) : Short (outOf d rd l).2.1 := by
  cases h : rd l with
  | none => rw [outOf_none h]; show ([] : List UInt8).length < 4294967281; simp
  | some p =>
    obtain ⟨v, r⟩ := p
    rw [outOf_some h]
    have := F.less h
    show r.length < 4294967281
    have h2 : l.length < 4294967281 := hl
    omega

/-- A reader of the wire, over what is left of its bytes. -/
def WAt (w : World) (b : Nat) (l : List UInt8) (t : Bool) : Prop := RdAt w b l t ∧ (t = true → l = [])
/-- A reader of the reference, over what is left of its bytes. -/
def FAt (w : World) (b : Nat) (s l : List UInt8) (t : Bool) : Prop := (∃ k, k ≤ s.length ∧ (t = false → s.drop k = l) ∧ RefAt w b s k t) ∧ (t = true → l = [])

theorem WAt.later {w w' : World} {b : Nat} {l : List UInt8} {t : Bool} (h : WAt w b l t) (hg : Grows w w') : WAt w' b l t := ⟨h.1.later hg, h.2⟩
theorem WAt.other {w w' : World} {b c : Nat} {l : List UInt8} {t : Bool} (h : WAt w b l t) (hg : w.grownBy w' (some c)) (hne : b ≠ c) : WAt w' b l t := ⟨h.1.other hg hne, h.2⟩
theorem FAt.later {w w' : World} {b : Nat} {s l : List UInt8} {t : Bool} (h : FAt w b s l t) (hg : Grows w w') : FAt w' b s l t := by
  obtain ⟨⟨k, h1, h2, h3⟩, h4⟩ := h
  exact ⟨⟨k, h1, h2, h3.later hg⟩, h4⟩
theorem FAt.other {w w' : World} {b c : Nat} {s l : List UInt8} {t : Bool} (h : FAt w b s l t) (hg : w.grownBy w' (some c)) (hne : b ≠ c) : FAt w' b s l t := by
  obtain ⟨⟨k, h1, h2, h3⟩, h4⟩ := h
  exact ⟨⟨k, h1, h2, h3.other hg hne⟩, h4⟩
theorem left_is {k : Nat} {s l : List UInt8} {t : Bool} (h2 : t = false → s.drop k = l) (h4 : t = true → l = []) : leftOf s k t = l := by
  unfold leftOf
  cases t with
  | true => exact (h4 rfl).symm
  | false => exact h2 rfl
theorem own_none (w : World) (B : Nat) (e : TypeId) : w.ownsRow B e 1 (.slice none 0 0) 0 [] := World.ownsRow_nil _ _ _ _

/-- A read that broke nothing was of a reader that was whole. -/
theorem whole {α : Type} {rd : List UInt8 → Option (α × List UInt8)} {enc : α → List UInt8} {ok : α → Prop} (F : Fits rd enc ok) {l r : List UInt8} {v : α} {t : Bool} (h : rd l = some (v, r)) (ht : t = true → l = []) : t = false := by
  cases t with
  | false => rfl
  | true =>
    have := F.less h
    rw [ht rfl] at this
    simp at this

theorem w_int (b : Nat) (l : List UInt8) (t : Bool) (w : World) (E : Env w) (hl : Short l) (h : WAt w b l t) :
    Calls Tryd.prog 22 #[.pointer (some ⟨b, 0, none⟩)] w fun e w' => e = .returned (.int .i64 (outOf 0 rdI l).1) ∧ WAt w' b (outOf 0 rdI l).2.1 (outOf 0 rdI l).2.2 ∧ w.grownBy w' (some b) := by
  have hlo := outOf_left (d := (0 : Int)) (rd := rdI) l
  cases hr : rdI l with
  | none =>
    rw [outOf_none hr] at *
    refine (rdint_no b l t w E hl h.1 hr).mono ?_
    rintro e w' ⟨rfl, h1, h2⟩
    exact ⟨rfl, ⟨h1, hlo⟩, h2⟩
  | some p =>
    obtain ⟨v, r⟩ := p
    rw [outOf_some hr] at *
    obtain rfl := whole fitsI hr h.2
    refine (rdint_yes b l r false v w E hl h.1 hr).mono ?_
    rintro e w' ⟨rfl, h1, h2⟩
    exact ⟨rfl, ⟨h1, hlo⟩, h2⟩

theorem w_text (b : Nat) (l : List UInt8) (t : Bool) (w : World) (E : Env w) (hl : Short l) (h : WAt w b l t) :
    Calls Tryd.prog 24 #[.pointer (some ⟨b, 0, none⟩)] w fun e w' => e = .returned (.string ⟨(outOf [] rdT l).1.toArray⟩) ∧ WAt w' b (outOf [] rdT l).2.1 (outOf [] rdT l).2.2 ∧ w.grownBy w' (some b) := by
  have hlo := outOf_left (d := ([] : List UInt8)) (rd := rdT) l
  cases hr : rdT l with
  | none =>
    rw [outOf_none hr] at *
    refine (rdtext_no b l t w E hl h.1 hr).mono ?_
    rintro e w' ⟨rfl, h1, h2⟩
    exact ⟨rfl, ⟨h1, hlo⟩, h2⟩
  | some p =>
    obtain ⟨v, r⟩ := p
    rw [outOf_some hr] at *
    obtain rfl := whole fitsT hr h.2
    refine (rdtext_yes b l v r false w E hl h.1 hr).mono ?_
    rintro e w' ⟨rfl, h1, h2⟩
    exact ⟨rfl, ⟨h1, hlo⟩, h2⟩

theorem w_ints (b : Nat) (l : List UInt8) (t : Bool) (w : World) (E : Env w) (hb4 : 4 ≤ b) (hl : Short l) (h : WAt w b l t) :
    Calls Tryd.prog 27 #[.pointer (some ⟨b, 0, none⟩)] w fun e w' => ∃ v, e = .returned v ∧ w'.ownsRow w.heap.size 3 1 v (outOf [] (rdL rdI) l).1.length (ints (outOf [] (rdL rdI) l).1) ∧ WAt w' b (outOf [] (rdL rdI) l).2.1 (outOf [] (rdL rdI) l).2.2 ∧ w.grownBy w' (some b) := by
  have hlo := outOf_left (d := ([] : List Int)) (rd := rdL rdI) l
  cases hr : rdL rdI l with
  | none =>
    rw [outOf_none hr] at *
    refine (rdints_no b l t w E hb4 hl h.1 h.2 hr).mono ?_
    rintro e w' ⟨rfl, h1, h2⟩
    exact ⟨_, rfl, own_none _ _ _, ⟨h1, hlo⟩, h2⟩
  | some p =>
    obtain ⟨v, r⟩ := p
    rw [outOf_some hr] at *
    obtain rfl := whole fitsIs hr h.2
    refine (rdints_yes b l r v w E hb4 hl h.1 hr).mono ?_
    rintro e w' ⟨u, rfl, h0, h1, h2⟩
    exact ⟨_, rfl, h0, ⟨h1, hlo⟩, h2⟩

theorem w_strs (b : Nat) (l : List UInt8) (t : Bool) (w : World) (E : Env w) (hb4 : 4 ≤ b) (hl : Short l) (h : WAt w b l t) :
    Calls Tryd.prog 30 #[.pointer (some ⟨b, 0, none⟩)] w fun e w' => ∃ v, e = .returned v ∧ w'.ownsRow w.heap.size 9 1 v (outOf [] (rdL rdT) l).1.length (strs (outOf [] (rdL rdT) l).1) ∧ WAt w' b (outOf [] (rdL rdT) l).2.1 (outOf [] (rdL rdT) l).2.2 ∧ w.grownBy w' (some b) := by
  have hlo := outOf_left (d := ([] : List (List UInt8))) (rd := rdL rdT) l
  cases hr : rdL rdT l with
  | none =>
    rw [outOf_none hr] at *
    refine (rdstrs_no b l t w E hb4 hl h.1 h.2 hr).mono ?_
    rintro e w' ⟨rfl, h1, h2⟩
    exact ⟨_, rfl, own_none _ _ _, ⟨h1, hlo⟩, h2⟩
  | some p =>
    obtain ⟨v, r⟩ := p
    rw [outOf_some hr] at *
    obtain rfl := whole fitsTs hr h.2
    refine (rdstrs_yes b l r v w E hb4 hl h.1 hr).mono ?_
    rintro e w' ⟨u, rfl, h0, h1, h2⟩
    exact ⟨_, rfl, h0, ⟨h1, hlo⟩, h2⟩

theorem f_int (b : Nat) (s l : List UInt8) (t : Bool) (w : World) (hs : Short s) (h : FAt w b s l t) :
    Calls Tryd.prog 23 #[.pointer (some ⟨b, 0, none⟩)] w fun e w' => e = .returned (.int .i64 (outOf 0 rdI l).1) ∧ FAt w' b s (outOf 0 rdI l).2.1 (outOf 0 rdI l).2.2 ∧ w.grownBy w' (some b) := by
  have hlo := outOf_left (d := (0 : Int)) (rd := rdI) l
  obtain ⟨⟨k, h1, h2, h3⟩, h4⟩ := h
  cases hr : rdI l with
  | none =>
    rw [outOf_none hr] at *
    cases t with
    | true =>
      refine (rrint_wrong b k s w h1 h3).mono ?_
      rintro e w' ⟨k', q1, q2, rfl, q3, q4⟩
      exact ⟨rfl, ⟨⟨k', q1, q2, q3⟩, hlo⟩, q4⟩
    | false =>
      refine (rrint_no b k s w hs h1 h3 (by rw [h2 rfl]; exact hr)).mono ?_
      rintro e w' ⟨k', q1, q2, rfl, q3, q4⟩
      exact ⟨rfl, ⟨⟨k', q1, q2, q3⟩, hlo⟩, q4⟩
  | some p =>
    obtain ⟨v, r⟩ := p
    rw [outOf_some hr] at *
    obtain rfl := whole fitsI hr h4
    refine (rrint_yes b k s r v w hs h3 (by rw [h2 rfl]; exact hr)).mono ?_
    rintro e w' ⟨k', q1, q2, rfl, q3, q4⟩
    exact ⟨rfl, ⟨⟨k', q1, q2, q3⟩, hlo⟩, q4⟩

theorem f_text (b : Nat) (s l : List UInt8) (t : Bool) (w : World) (hs : Short s) (h : FAt w b s l t) :
    Calls Tryd.prog 25 #[.pointer (some ⟨b, 0, none⟩)] w fun e w' => e = .returned (.string ⟨(outOf [] rdT l).1.toArray⟩) ∧ FAt w' b s (outOf [] rdT l).2.1 (outOf [] rdT l).2.2 ∧ w.grownBy w' (some b) := by
  have hlo := outOf_left (d := ([] : List UInt8)) (rd := rdT) l
  obtain ⟨⟨k, h1, h2, h3⟩, h4⟩ := h
  cases hr : rdT l with
  | none =>
    rw [outOf_none hr] at *
    cases t with
    | true =>
      refine (rrtext_wrong b k s w h1 h3).mono ?_
      rintro e w' ⟨k', q1, q2, rfl, q3, q4⟩
      exact ⟨rfl, ⟨⟨k', q1, q2, q3⟩, hlo⟩, q4⟩
    | false =>
      refine (rrtext_no b k s w hs h1 h3 (by rw [h2 rfl]; exact hr)).mono ?_
      rintro e w' ⟨k', q1, q2, rfl, q3, q4⟩
      exact ⟨rfl, ⟨⟨k', q1, q2, q3⟩, hlo⟩, q4⟩
  | some p =>
    obtain ⟨v, r⟩ := p
    rw [outOf_some hr] at *
    obtain rfl := whole fitsT hr h4
    refine (rrtext_yes b k s v r w hs h3 (by rw [h2 rfl]; exact hr)).mono ?_
    rintro e w' ⟨k', q1, q2, rfl, q3, q4⟩
    exact ⟨rfl, ⟨⟨k', q1, q2, q3⟩, hlo⟩, q4⟩

theorem f_ints (b : Nat) (s l : List UInt8) (t : Bool) (w : World) (hs : Short s) (h : FAt w b s l t) :
    Calls Tryd.prog 28 #[.pointer (some ⟨b, 0, none⟩)] w fun e w' => ∃ v, e = .returned v ∧ w'.ownsRow w.heap.size 3 1 v (outOf [] (rdL rdI) l).1.length (ints (outOf [] (rdL rdI) l).1) ∧ FAt w' b s (outOf [] (rdL rdI) l).2.1 (outOf [] (rdL rdI) l).2.2 ∧ w.grownBy w' (some b) := by
  have hlo := outOf_left (d := ([] : List Int)) (rd := rdL rdI) l
  obtain ⟨⟨k, h1, h2, h3⟩, h4⟩ := h
  have hlf := left_is h2 h4
  cases hr : rdL rdI l with
  | none =>
    rw [outOf_none hr] at *
    refine (rrints_no b k s t w hs h1 h3 (by rw [hlf]; exact hr)).mono ?_
    rintro e w' ⟨k', q1, q2, rfl, q3, q4⟩
    exact ⟨_, rfl, own_none _ _ _, ⟨⟨k', q1, q2, q3⟩, hlo⟩, q4⟩
  | some p =>
    obtain ⟨v, r⟩ := p
    rw [outOf_some hr] at *
    obtain rfl := whole fitsIs hr h4
    refine (rrints_yes b k s r v w hs h3 (by rw [h2 rfl]; exact hr)).mono ?_
    rintro e w' ⟨u, q0, k', q1, q2, rfl, q3, q4⟩
    exact ⟨_, rfl, q0, ⟨⟨k', q1, q2, q3⟩, hlo⟩, q4⟩

theorem f_strs (b : Nat) (s l : List UInt8) (t : Bool) (w : World) (hs : Short s) (h : FAt w b s l t) :
    Calls Tryd.prog 31 #[.pointer (some ⟨b, 0, none⟩)] w fun e w' => ∃ v, e = .returned v ∧ w'.ownsRow w.heap.size 9 1 v (outOf [] (rdL rdT) l).1.length (strs (outOf [] (rdL rdT) l).1) ∧ FAt w' b s (outOf [] (rdL rdT) l).2.1 (outOf [] (rdL rdT) l).2.2 ∧ w.grownBy w' (some b) := by
  have hlo := outOf_left (d := ([] : List (List UInt8))) (rd := rdL rdT) l
  obtain ⟨⟨k, h1, h2, h3⟩, h4⟩ := h
  have hlf := left_is h2 h4
  cases hr : rdL rdT l with
  | none =>
    rw [outOf_none hr] at *
    refine (rrstrs_no b k s t w hs h1 h3 (by rw [hlf]; exact hr)).mono ?_
    rintro e w' ⟨k', q1, q2, rfl, q3, q4⟩
    exact ⟨_, rfl, own_none _ _ _, ⟨⟨k', q1, q2, q3⟩, hlo⟩, q4⟩
  | some p =>
    obtain ⟨v, r⟩ := p
    rw [outOf_some hr] at *
    obtain rfl := whole fitsTs hr h4
    refine (rrstrs_yes b k s r v w hs h3 (by rw [h2 rfl]; exact hr)).mono ?_
    rintro e w' ⟨u, q0, k', q1, q2, rfl, q3, q4⟩
    exact ⟨_, rfl, q0, ⟨⟨k', q1, q2, q3⟩, hlo⟩, q4⟩

theorem f_left (b : Nat) (s l : List UInt8) (t : Bool) (w : World) (hs : Short s) (h : FAt w b s l t) :
    Calls Tryd.prog 33 #[.pointer (some ⟨b, 0, none⟩)] w fun e w' => e = .returned (.int .i64 l.length) ∧ ∃ n, w' = w.drewN n := by
  obtain ⟨⟨k, h1, h2, h3⟩, h4⟩ := h
  cases t with
  | true =>
    obtain rfl := h4 rfl
    exact rleft_wrong b k s w h3
  | false =>
    have e := h2 rfl
    refine rleft_right b k l.length s w ?_ hs h3
    rw [← e, List.length_drop]; omega
theorem f_bad (b : Nat) (s l : List UInt8) (t : Bool) (w : World) (h : FAt w b s l t) :
    Calls Tryd.prog 35 #[.pointer (some ⟨b, 0, none⟩)] w fun e w' => e = .returned (.bool t) ∧ w = w' := by
  obtain ⟨⟨k, h1, h2, h3⟩, h4⟩ := h
  exact rbad_any b k s t w h3

end Go.Proofs.YtjiljkiedidmeaaDoor
