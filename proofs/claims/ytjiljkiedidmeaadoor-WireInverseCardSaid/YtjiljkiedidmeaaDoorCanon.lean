/- WireCanonical: the walk. -/
import Derived.Test.YtjiljkiedidmeaaDoorPair
import Derived.Test.YtjiljkiedidmeaaDoorWrites
namespace Go.Proofs.YtjiljkiedidmeaaDoor
open Go.RowKit Go.Lib

theorem front_eq (a r : List UInt8) : ByteArray.extract ⟨(a ++ r).toArray⟩ 0 a.length = ⟨a.toArray⟩ := by
  have h := extract_take (a ++ r) a.length
  rw [List.length_append, Nat.min_eq_right (by omega), List.take_left] at h
  exact h

theorem encT_ge (s : List UInt8) : s.length ≤ (encT s).length := by unfold encT; simp; omega
theorem encL_len {α : Type} (enc : α → List UInt8) (l : List α) : (encL enc l).length = (l.flatMap enc).length + 2 := by unfold encL; simp

set_option maxRecDepth 100000 in
set_option maxHeartbeats 4000000 in
theorem canon_walk (l : List UInt8) (w : World) (E : Env w) (hl : (l.length : Int) ≤ 9223372036854775807) :
    Calls Tryd.prog 6 #[.string ⟨l.toArray⟩] w fun e w' => e = .returned (.bool true) ∧ Grows w w' := by
  have hx := extract_take l 200
  have hm := min_nat l.length 200
  have hs := size_of_list l
  have hle : min l.length 200 ≤ l.length := Nat.min_le_left _ _
  have hL : (l.take 200).length ≤ 200 := by rw [List.length_take]; omega
  rw [show (((200 : Nat) : Int)) = 200 from rfl] at hm
  generalize l.take 200 = L at *
  have hS : RowKit.Hid (Short L) := Lib.hid (show L.length < 4294967281 by omega)
  have hS : RowKit.Hid (Short L) := Lib.hid (show L.length < 4294967281 by omega)
  have hS : RowKit.Hid (Short L) := Lib.hid (show L.length < 4294967281 by omega)
  have hS : RowKit.Hid (Short L) := Lib.hid (show L.length < 4294967281 by omega)
  have hS : RowKit.Hid (Short L) := Lib.hid (show L.length < 4294967281 by omega)
  go_enter Tryd.func6, Tryd.ntmps6
  go_wp2_with fail
  refine (sane _ E).mono ?_
  rintro e w1 ⟨rfl, g1⟩
  go_wp2_with fail
  clear hx hm hs hle hl
  go_loopw [4] (fun x wr => ∃ k : Nat, k ≤ 4 ∧ x = .int .i64 k ∧ Grows w1 wr) (fun x _ => 4 - (RowKit.intOf x).toNat)
  case atStart => exact ⟨0, Nat.zero_le _, rfl, Below.refl _ _⟩
  case round =>
    obtain ⟨k, hk, rfl, b1⟩ := hrel
    have g2 := g1.then b1
    have hsz : 4 ≤ wr.heap.size := (E.grows g2).size
    have h3 : k = 0 ∨ k = 1 ∨ k = 2 ∨ k = 3 ∨ k = 4 := by omega
    rcases h3 with rfl | rfl | rfl | rfl | rfl
    · go_wp2_with fail
      refine (new_any L _).mono ?_
      rintro e w3 ⟨rfl, h3, g3⟩
      have E3 := (E.grows g2).grows g3
      cases hr : rdI L with
      | none =>
        go_wp2_with fail
        refine (rdint_no _ L false _ E3 hS.out h3 hr).mono ?_
        rintro e w4 ⟨rfl, h4, g4⟩
        have E4 := E3.grown g4 hsz
        have b4 : Grows wr w4 := g3.trans (below_of_grown g4 (Nat.le_refl _) g3.size)
        clear h3 hr g3 g4
        go_wp2_with fail
        refine (int_any 0 _ ⟨by omega, by omega⟩ E4).mono ?_
        rintro e w5 ⟨rfl, g5⟩
        have h5 := h4.later g5
        have b5 := b1.then (b4.then g5)
        clear h4 g5 b4
        go_wp2_with fail
        refine (bad_any _ _ _ _ h5).mono ?_
        rintro e w6 ⟨rfl, rfl⟩
        go_wp2_with fail
        refine (bad_any _ _ _ _ h5).mono ?_
        rintro e w7 ⟨rfl, rfl⟩
        go_wp2_with fail
        refine (wleft_any _ _ _ _ h5).mono ?_
        rintro e w8 ⟨rfl, rfl⟩
        go_wp2_with fail
        go_roundw
        case rel => exact ⟨1, by omega, by go_num, b5⟩
        case measure => simp [RowKit.intOf]
      | some p =>
        obtain ⟨v, r⟩ := p
        obtain ⟨hok, he⟩ := fitsI.is L v r hr
        replace hok := Lib.hid hok
        have hel : L.length = (encI v).length + r.length := by rw [he, List.length_append]
        skip
        replace he := Lib.hid he
        replace hel := Lib.hid hel
        go_wp2_with fail
        refine (rdint_yes _ L r false v _ E3 hS.out h3 hr).mono ?_
        rintro e w4 ⟨rfl, h4, g4⟩
        have E4 := E3.grown g4 hsz
        have b4 : Grows wr w4 := g3.trans (below_of_grown g4 (Nat.le_refl _) g3.size)
        clear h3 g3 g4
        go_wp2_with fail
        refine (int_any v _ hok.out E4).mono ?_
        rintro e w5 ⟨rfl, g5⟩
        have h5 := h4.later g5
        have b5 := b1.then (b4.then g5)
        clear h4 g5 b4 hr E3 E4
        have q2 := front_eq (encI v) r
        rw [← he.out] at q2
        replace hel := hel.out
        clear he
        generalize encI v = m at *
        have q1 := size_of_list m
        have q3 := size_of_list L
        have q4 : (((m.length : Nat) : Int) != ((L.length : Nat) : Int) - ((r.length : Nat) : Int)) = false := by simpa using (show ((m.length : Nat) : Int) = ((L.length : Nat) : Int) - ((r.length : Nat) : Int) by omega)
        have q5 : IntKind.i64.wrap (((L.length : Nat) : Int) - ((r.length : Nat) : Int)) = ((L.length : Nat) : Int) - ((r.length : Nat) : Int) := IntWalk.i64_in _ (by omega)
        have q7 : ((m.length : Nat) : Int) ≤ ((L.length : Nat) : Int) := by omega
        clear hel
        go_wp2_with fail
        refine (bad_any _ _ _ _ h5).mono ?_
        rintro e w6 ⟨rfl, rfl⟩
        go_wp2_with fail
        refine (wleft_any _ _ _ _ h5).mono ?_
        rintro e w8 ⟨rfl, rfl⟩
        go_wp2_with fail
        refine (bad_any _ _ _ _ h5).mono ?_
        rintro e w7 ⟨rfl, rfl⟩
        go_wp2_with fail
        go_roundw
        case rel => exact ⟨1, by omega, by go_num, b5⟩
        case measure => simp [RowKit.intOf]
    · go_wp2_with fail
      refine (new_any L _).mono ?_
      rintro e w3 ⟨rfl, h3, g3⟩
      have E3 := (E.grows g2).grows g3
      cases hr : rdT L with
      | none =>
        go_wp2_with fail
        refine (rdtext_no _ L false _ E3 hS.out h3 hr).mono ?_
        rintro e w4 ⟨rfl, h4, g4⟩
        have E4 := E3.grown g4 hsz
        have b4 : Grows wr w4 := g3.trans (below_of_grown g4 (Nat.le_refl _) g3.size)
        clear h3 hr g3 g4
        go_wp2_with fail
        refine (text_any ⟨#[]⟩ _ (by rw [show (⟨#[]⟩ : ByteArray).size = 0 from rfl]; omega) E4).mono ?_
        rintro e w5 ⟨rfl, g5⟩
        have h5 := h4.later g5
        have b5 := b1.then (b4.then g5)
        clear h4 g5 b4
        go_wp2_with fail
        refine (bad_any _ _ _ _ h5).mono ?_
        rintro e w6 ⟨rfl, rfl⟩
        go_wp2_with fail
        refine (bad_any _ _ _ _ h5).mono ?_
        rintro e w7 ⟨rfl, rfl⟩
        go_wp2_with fail
        refine (wleft_any _ _ _ _ h5).mono ?_
        rintro e w8 ⟨rfl, rfl⟩
        go_wp2_with fail
        go_roundw
        case rel => exact ⟨2, by omega, by go_num, b5⟩
        case measure => simp [RowKit.intOf]
      | some p =>
        obtain ⟨v, r⟩ := p
        obtain ⟨hok, he⟩ := fitsT.is L v r hr
        replace hok := Lib.hid hok
        have hel : L.length = (encT v).length + r.length := by rw [he, List.length_append]
        have hvl := encT_ge v
        replace he := Lib.hid he
        replace hel := Lib.hid hel
        go_wp2_with fail
        refine (rdtext_yes _ L v r false _ E3 hS.out h3 hr).mono ?_
        rintro e w4 ⟨rfl, h4, g4⟩
        have E4 := E3.grown g4 hsz
        have b4 : Grows wr w4 := g3.trans (below_of_grown g4 (Nat.le_refl _) g3.size)
        clear h3 g3 g4
        go_wp2_with fail
        refine (text_any ⟨v.toArray⟩ _ (by have := hel.out; rw [size_of_list]; omega) E4).mono ?_
        rintro e w5 ⟨rfl, g5⟩
        have h5 := h4.later g5
        have b5 := b1.then (b4.then g5)
        clear h4 g5 b4 hr E3 E4
        have q2 := front_eq (encT v) r
        rw [← he.out] at q2
        replace hel := hel.out
        clear he
        generalize encT v = m at *
        have q1 := size_of_list m
        have q3 := size_of_list L
        have q4 : (((m.length : Nat) : Int) != ((L.length : Nat) : Int) - ((r.length : Nat) : Int)) = false := by simpa using (show ((m.length : Nat) : Int) = ((L.length : Nat) : Int) - ((r.length : Nat) : Int) by omega)
        have q5 : IntKind.i64.wrap (((L.length : Nat) : Int) - ((r.length : Nat) : Int)) = ((L.length : Nat) : Int) - ((r.length : Nat) : Int) := IntWalk.i64_in _ (by omega)
        have q7 : ((m.length : Nat) : Int) ≤ ((L.length : Nat) : Int) := by omega
        clear hel
        go_wp2_with fail
        refine (bad_any _ _ _ _ h5).mono ?_
        rintro e w6 ⟨rfl, rfl⟩
        go_wp2_with fail
        refine (wleft_any _ _ _ _ h5).mono ?_
        rintro e w8 ⟨rfl, rfl⟩
        go_wp2_with fail
        refine (bad_any _ _ _ _ h5).mono ?_
        rintro e w7 ⟨rfl, rfl⟩
        go_wp2_with fail
        go_roundw
        case rel => exact ⟨2, by omega, by go_num, b5⟩
        case measure => simp [RowKit.intOf]
    · go_wp2_with fail
      refine (new_any L _).mono ?_
      rintro e w3 ⟨rfl, h3, g3⟩
      have E3 := (E.grows g2).grows g3
      cases hr : rdL rdI L with
      | none =>
        go_wp2_with fail
        refine (rdints_no _ L false _ E3 (by omega) hS.out h3 (fun e => by cases e) hr).mono ?_
        rintro e w4 ⟨rfl, h4, g4⟩
        have E4 := E3.grown g4 hsz
        have b4 : Grows wr w4 := g3.trans (below_of_grown g4 (Nat.le_refl _) g3.size)
        clear h3 hr g3 g4
        go_wp2_with fail
        refine (wints_any _ [] _ (Row.nil _) (by simp) (by simp) E4).mono ?_
        rintro e w5 ⟨rfl, g5⟩
        have h5 := h4.later g5
        have b5 := b1.then (b4.then g5)
        clear h4 g5 b4
        go_wp2_with fail
        refine (bad_any _ _ _ _ h5).mono ?_
        rintro e w6 ⟨rfl, rfl⟩
        go_wp2_with fail
        refine (bad_any _ _ _ _ h5).mono ?_
        rintro e w7 ⟨rfl, rfl⟩
        go_wp2_with fail
        refine (wleft_any _ _ _ _ h5).mono ?_
        rintro e w8 ⟨rfl, rfl⟩
        go_wp2_with fail
        go_roundw
        case rel => exact ⟨3, by omega, by go_num, b5⟩
        case measure => simp [RowKit.intOf]
      | some p =>
        obtain ⟨v, r⟩ := p
        obtain ⟨hok, he⟩ := fitsIs.is L v r hr
        replace hok := Lib.hid hok
        have hel : L.length = (encL encI v).length + r.length := by rw [he, List.length_append]
        skip
        replace he := Lib.hid he
        replace hel := Lib.hid hel
        go_wp2_with fail
        refine (rdints_yes _ L r v _ E3 (by omega) hS.out h3 hr).mono ?_
        rintro e w4 ⟨u, rfl, ho, h4, g4⟩
        have E4 := E3.grown g4 hsz
        have b4 : Grows wr w4 := g3.trans (below_of_grown g4 (Nat.le_refl _) g3.size)
        clear h3 g3 g4
        go_wp2_with fail
        refine (wints_any _ v _ (Row.of_owns ho) hok.out (by have := hel.out; have := encL_len encI v; omega) E4).mono ?_
        rintro e w5 ⟨rfl, g5⟩
        have h5 := h4.later g5
        have b5 := b1.then (b4.then g5)
        clear h4 g5 b4 hr E3 E4 ho
        have q2 := front_eq (encL encI v) r
        rw [← he.out] at q2
        replace hel := hel.out
        clear he
        generalize encL encI v = m at *
        have q1 := size_of_list m
        have q3 := size_of_list L
        have q4 : (((m.length : Nat) : Int) != ((L.length : Nat) : Int) - ((r.length : Nat) : Int)) = false := by simpa using (show ((m.length : Nat) : Int) = ((L.length : Nat) : Int) - ((r.length : Nat) : Int) by omega)
        have q5 : IntKind.i64.wrap (((L.length : Nat) : Int) - ((r.length : Nat) : Int)) = ((L.length : Nat) : Int) - ((r.length : Nat) : Int) := IntWalk.i64_in _ (by omega)
        have q7 : ((m.length : Nat) : Int) ≤ ((L.length : Nat) : Int) := by omega
        clear hel
        go_wp2_with fail
        refine (bad_any _ _ _ _ h5).mono ?_
        rintro e w6 ⟨rfl, rfl⟩
        go_wp2_with fail
        refine (wleft_any _ _ _ _ h5).mono ?_
        rintro e w8 ⟨rfl, rfl⟩
        go_wp2_with fail
        refine (bad_any _ _ _ _ h5).mono ?_
        rintro e w7 ⟨rfl, rfl⟩
        go_wp2_with fail
        go_roundw
        case rel => exact ⟨3, by omega, by go_num, b5⟩
        case measure => simp [RowKit.intOf]
    · go_wp2_with fail
      refine (new_any L _).mono ?_
      rintro e w3 ⟨rfl, h3, g3⟩
      have E3 := (E.grows g2).grows g3
      cases hr : rdL rdT L with
      | none =>
        go_wp2_with fail
        refine (rdstrs_no _ L false _ E3 (by omega) hS.out h3 (fun e => by cases e) hr).mono ?_
        rintro e w4 ⟨rfl, h4, g4⟩
        have E4 := E3.grown g4 hsz
        have b4 : Grows wr w4 := g3.trans (below_of_grown g4 (Nat.le_refl _) g3.size)
        clear h3 hr g3 g4
        go_wp2_with fail
        refine (wtexts_any _ [] _ (Row.nil _) (by simp) E4).mono ?_
        rintro e w5 ⟨rfl, g5⟩
        have h5 := h4.later g5
        have b5 := b1.then (b4.then g5)
        clear h4 g5 b4
        go_wp2_with fail
        refine (bad_any _ _ _ _ h5).mono ?_
        rintro e w6 ⟨rfl, rfl⟩
        go_wp2_with fail
        refine (bad_any _ _ _ _ h5).mono ?_
        rintro e w7 ⟨rfl, rfl⟩
        go_wp2_with fail
        refine (wleft_any _ _ _ _ h5).mono ?_
        rintro e w8 ⟨rfl, rfl⟩
        go_wp2_with fail
        go_roundw
        case rel => exact ⟨4, by omega, by go_num, b5⟩
        case measure => simp [RowKit.intOf]
      | some p =>
        obtain ⟨v, r⟩ := p
        obtain ⟨hok, he⟩ := fitsTs.is L v r hr
        replace hok := Lib.hid hok
        have hel : L.length = (encL encT v).length + r.length := by rw [he, List.length_append]
        skip
        replace he := Lib.hid he
        replace hel := Lib.hid hel
        go_wp2_with fail
        refine (rdstrs_yes _ L r v _ E3 (by omega) hS.out h3 hr).mono ?_
        rintro e w4 ⟨u, rfl, ho, h4, g4⟩
        have E4 := E3.grown g4 hsz
        have b4 : Grows wr w4 := g3.trans (below_of_grown g4 (Nat.le_refl _) g3.size)
        clear h3 g3 g4
        go_wp2_with fail
        refine (wtexts_any _ v _ (Row.of_owns ho) (by have := hel.out; have := encL_len encT v; omega) E4).mono ?_
        rintro e w5 ⟨rfl, g5⟩
        have h5 := h4.later g5
        have b5 := b1.then (b4.then g5)
        clear h4 g5 b4 hr E3 E4 ho
        have q2 := front_eq (encL encT v) r
        rw [← he.out] at q2
        replace hel := hel.out
        clear he
        generalize encL encT v = m at *
        have q1 := size_of_list m
        have q3 := size_of_list L
        have q4 : (((m.length : Nat) : Int) != ((L.length : Nat) : Int) - ((r.length : Nat) : Int)) = false := by simpa using (show ((m.length : Nat) : Int) = ((L.length : Nat) : Int) - ((r.length : Nat) : Int) by omega)
        have q5 : IntKind.i64.wrap (((L.length : Nat) : Int) - ((r.length : Nat) : Int)) = ((L.length : Nat) : Int) - ((r.length : Nat) : Int) := IntWalk.i64_in _ (by omega)
        have q7 : ((m.length : Nat) : Int) ≤ ((L.length : Nat) : Int) := by omega
        clear hel
        go_wp2_with fail
        refine (bad_any _ _ _ _ h5).mono ?_
        rintro e w6 ⟨rfl, rfl⟩
        go_wp2_with fail
        refine (wleft_any _ _ _ _ h5).mono ?_
        rintro e w8 ⟨rfl, rfl⟩
        go_wp2_with fail
        refine (bad_any _ _ _ _ h5).mono ?_
        rintro e w7 ⟨rfl, rfl⟩
        go_wp2_with fail
        go_roundw
        case rel => exact ⟨4, by omega, by go_num, b5⟩
        case measure => simp [RowKit.intOf]
    · go_wp2_with fail
      go_ret
      exact ⟨rfl, g2⟩

end Go.Proofs.YtjiljkiedidmeaaDoor
