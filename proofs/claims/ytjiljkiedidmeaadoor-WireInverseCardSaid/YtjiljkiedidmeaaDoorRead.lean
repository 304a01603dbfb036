/- The reader of wire: its small methods, and the decoding of an int and of a string. -/
import Derived.Test.YtjiljkiedidmeaaDoorNum
namespace Go.Proofs.YtjiljkiedidmeaaDoor
open Go.RowKit Go.Lib

/-- A reader in block b: what follows its position, and whether it is bad. -/
def RdAt (w : World) (b : Nat) (l : List UInt8) (t : Bool) : Prop := w.heap[b]? = some (.cells #[.string ⟨l.toArray⟩, .bool t] 53 (0, 0))
theorem RdAt.cell0 {w : World} {b : Nat} {l : List UInt8} {t : Bool} (h : RdAt w b l t) : w.cell? ⟨b, 0, none⟩ = some (.string ⟨l.toArray⟩) := by rw [cell_of_heap h]; rfl
theorem RdAt.cell1 {w : World} {b : Nat} {l : List UInt8} {t : Bool} (h : RdAt w b l t) : w.cell? ⟨b, 1, none⟩ = some (.bool t) := by rw [cell_of_heap h]; rfl
theorem RdAt.free {w : World} {b : Nat} {l : List UInt8} {t : Bool} (h : RdAt w b l t) (j : Nat) : w.frozen? ⟨b, j, none⟩ = false := frozen_of_heap h j
theorem RdAt.lt {w : World} {b : Nat} {l : List UInt8} {t : Bool} (h : RdAt w b l t) : b < w.heap.size := (Array.getElem?_eq_some_iff.1 h).1
theorem RdAt.later {w w' : World} {b : Nat} {l : List UInt8} {t : Bool} (h : RdAt w b l t) (hg : Grows w w') : RdAt w' b l t := (hg.block b h.lt).trans h
theorem RdAt.other {w w' : World} {b c : Nat} {l : List UInt8} {t : Bool} (h : RdAt w b l t) (hg : w.grownBy w' (some c)) (hne : b ≠ c) : RdAt w' b l t := (hg.block b h.lt (by simpa using hne)).trans h
theorem RdAt.put0 {w : World} {b : Nat} {l : List UInt8} {t : Bool} (h : RdAt w b l t) (r : List UInt8) : RdAt (w.setCell ⟨b, 0, none⟩ (.string ⟨r.toArray⟩)) b r t := Joins.block_setCell (i := 0) h _
theorem RdAt.put1 {w : World} {b : Nat} {l : List UInt8} {t : Bool} (h : RdAt w b l t) (s : Bool) : RdAt (w.setCell ⟨b, 1, none⟩ (.bool s)) b l s := Joins.block_setCell (i := 1) h _
theorem grown_set (w : World) (b j : Nat) (v : Value) : w.grownBy (w.setCell ⟨b, j, none⟩ v) (some b) :=
  ⟨rfl, rfl, rfl, by simp [World.setCell], fun k _ hk => Below.heap_setCell _ _ _ _ (by simpa using hk)⟩

/-- Behind a method of the reader in block b: it stands there, and nothing else of what was there has turned. -/
def RdPost (w : World) (b : Nat) (v : Value) (l : List UInt8) (t : Bool) (e : Ending) (w' : World) : Prop := e = .returned v ∧ RdAt w' b l t ∧ w.grownBy w' (some b)

set_option maxHeartbeats 400000 in
theorem new_any (l : List UInt8) (w : World) :
    Calls Tryd.prog 20 #[.string ⟨l.toArray⟩] w fun e w' => e = .returned (.pointer (some ⟨w.heap.size, 0, none⟩)) ∧ RdAt w' w.heap.size l false ∧ Grows w w' := by
  go_enter Tryd.func20, Tryd.ntmps20
  go_wp2_with fail
  go_ret
  exact ⟨rfl, heap_alloc_new w _, (Below.refl _ _).alloc (Nat.le_refl _) _⟩

set_option maxHeartbeats 400000 in
theorem left_any (b : Nat) (l : List UInt8) (t : Bool) (w : World) (h : RdAt w b l t) :
    Calls Tryd.prog 43 #[.pointer (some ⟨b, 0, none⟩)] w fun e w' => e = .returned (.string ⟨l.toArray⟩) ∧ w = w' := by
  have c0 := h.cell0
  go_enter Tryd.func43, Tryd.ntmps43
  go_wp2_with fail
  go_ret
  exact ⟨rfl, rfl⟩

set_option maxHeartbeats 400000 in
theorem left_nil (w : World) :
    Calls Tryd.prog 43 #[.pointer none] w fun e w' => e = .returned (.string ⟨#[]⟩) ∧ w = w' := by
  go_enter Tryd.func43, Tryd.ntmps43
  go_wp2_with fail
  go_ret
  exact ⟨rfl, rfl⟩

set_option maxHeartbeats 400000 in
theorem bad_any (b : Nat) (l : List UInt8) (t : Bool) (w : World) (h : RdAt w b l t) :
    Calls Tryd.prog 34 #[.pointer (some ⟨b, 0, none⟩)] w fun e w' => e = .returned (.bool t) ∧ w = w' := by
  have c1 := h.cell1
  go_enter Tryd.func34, Tryd.ntmps34
  go_wp2_with fail
  go_ret
  exact ⟨rfl, rfl⟩

set_option maxHeartbeats 400000 in
theorem bad_nil (w : World) :
    Calls Tryd.prog 34 #[.pointer none] w fun e w' => e = .returned (.bool true) ∧ w = w' := by
  go_enter Tryd.func34, Tryd.ntmps34
  go_wp2_with fail
  go_ret
  exact ⟨rfl, rfl⟩

set_option maxHeartbeats 400000 in
theorem wleft_any (b : Nat) (l : List UInt8) (t : Bool) (w : World) (h : RdAt w b l t) :
    Calls Tryd.prog 32 #[.pointer (some ⟨b, 0, none⟩)] w fun e w' => e = .returned (.int .i64 l.length) ∧ w = w' := by
  go_enter Tryd.func32, Tryd.ntmps32
  go_wp2_with fail
  refine (left_any b l t _ h).mono ?_
  rintro e w1 ⟨rfl, rfl⟩
  go_wp2_with fail
  go_ret
  exact ⟨by simp, rfl⟩

set_option maxHeartbeats 400000 in
theorem wleft_nil (w : World) :
    Calls Tryd.prog 32 #[.pointer none] w fun e w' => e = .returned (.int .i64 0) ∧ w = w' := by
  go_enter Tryd.func32, Tryd.ntmps32
  go_wp2_with fail
  refine (left_nil _).mono ?_
  rintro e w1 ⟨rfl, rfl⟩
  go_wp2_with fail
  go_ret
  exact ⟨rfl, rfl⟩

set_option maxHeartbeats 400000 in
theorem spoil_any (b : Nat) (l : List UInt8) (t : Bool) (w : World) (h : RdAt w b l t) :
    Calls Tryd.prog 44 #[.pointer (some ⟨b, 0, none⟩)] w (RdPost w b (.tuple #[]) [] true) := by
  have f0 := h.free 0
  have f1 := h.free 1
  have c0 := h.cell0
  have c1 := h.cell1
  have h2 := (h.put0 []).put1 true
  have hg := grown_trans (grown_set w b 0 (.string ⟨#[]⟩)) (grown_set (w.setCell ⟨b, 0, none⟩ (.string ⟨#[]⟩)) b 1 (.bool true))
  go_enter Tryd.func44, Tryd.ntmps44
  go_wp2_with fail
  go_end0
  exact ⟨rfl, h2, hg⟩

set_option maxHeartbeats 400000 in
theorem spoil_nil (w : World) :
    Calls Tryd.prog 44 #[.pointer none] w fun e w' => e = .returned (.tuple #[]) ∧ w = w' := by
  go_enter Tryd.func44, Tryd.ntmps44
  go_wp2_with fail
  go_end0
  exact ⟨rfl, rfl⟩

theorem first_byte (c : UInt8) (r : List UInt8) (h : 0 < (⟨(c :: r).toArray⟩ : ByteArray).size) : (⟨(c :: r).toArray⟩ : ByteArray)[0] = c := rfl
theorem extract_tail (c : UInt8) (r : List UInt8) : ByteArray.extract ⟨(c :: r).toArray⟩ 1 (r.length + 1) = ⟨r.toArray⟩ := by
  apply ByteArray.ext
  rw [ByteArray.data_extract]
  apply Array.ext'
  simp

set_option maxHeartbeats 400000 in
theorem skip_yes (b : Nat) (c : UInt8) (r : List UInt8) (t : Bool) (w : World) (hr : (r.length : Int) ≤ 4294967296) (h : RdAt w b (c :: r) t) :
    Calls Tryd.prog 56 #[.pointer (some ⟨b, 0, none⟩), .int .u8 (c.toNat : Int)] w (RdPost w b (.bool true) r t) := by
  have hx := extract_tail c r
  have hp := h.put0 r
  go_enter Tryd.func56, Tryd.ntmps56
  go_wp2_with fail
  refine (left_any b (c :: r) t _ h).mono ?_
  rintro e w1 ⟨rfl, rfl⟩
  have f0 := h.free 0
  have c0 := h.cell0
  have hb : ((((⟨(c :: r).toArray⟩ : ByteArray)[0]'(by simp [ByteArray.size])).toNat : Int) != (c.toNat : Int)) = false := by simp [first_byte]
  go_wp2_with fail
  go_ret
  exact ⟨rfl, hp, grown_set _ _ _ _⟩

set_option maxHeartbeats 400000 in
theorem skip_no (b : Nat) (c d : UInt8) (r : List UInt8) (t : Bool) (w : World) (hd : d ≠ c) (h : RdAt w b (d :: r) t) :
    Calls Tryd.prog 56 #[.pointer (some ⟨b, 0, none⟩), .int .u8 (c.toNat : Int)] w fun e w' => e = .returned (.bool false) ∧ w = w' := by
  go_enter Tryd.func56, Tryd.ntmps56
  go_wp2_with fail
  refine (left_any b (d :: r) t _ h).mono ?_
  rintro e w1 ⟨rfl, rfl⟩
  have hb : ((((⟨(d :: r).toArray⟩ : ByteArray)[0]'(by simp [ByteArray.size])).toNat : Int) != (c.toNat : Int)) = true := by
    rw [bne_iff_ne]
    intro e
    exact hd (UInt8.toNat_inj.1 (Int.ofNat_inj.1 e))
  go_wp2_with fail
  go_ret
  exact ⟨rfl, rfl⟩

set_option maxHeartbeats 400000 in
theorem skip_end (b : Nat) (c : Int) (t : Bool) (w : World) (h : RdAt w b [] t) :
    Calls Tryd.prog 56 #[.pointer (some ⟨b, 0, none⟩), .int .u8 c] w fun e w' => e = .returned (.bool false) ∧ w = w' := by
  go_enter Tryd.func56, Tryd.ntmps56
  go_wp2_with fail
  refine (left_any b [] t _ h).mono ?_
  rintro e w1 ⟨rfl, rfl⟩
  go_wp2_with fail
  go_ret
  exact ⟨rfl, rfl⟩

set_option maxHeartbeats 400000 in
theorem skip_nil (c : Int) (w : World) :
    Calls Tryd.prog 56 #[.pointer none, .int .u8 c] w fun e w' => e = .returned (.bool false) ∧ w = w' := by
  go_enter Tryd.func56, Tryd.ntmps56
  go_wp2_with fail
  refine (left_nil _).mono ?_
  rintro e w1 ⟨rfl, rfl⟩
  go_wp2_with fail
  go_ret
  exact ⟨rfl, rfl⟩

/-- The mark is not there: nothing turns. -/
theorem skip_not (b : Nat) (c : UInt8) (l : List UInt8) (t : Bool) (w : World) (hd : l.head? ≠ some c) (h : RdAt w b l t) :
    Calls Tryd.prog 56 #[.pointer (some ⟨b, 0, none⟩), .int .u8 (c.toNat : Int)] w fun e w' => e = .returned (.bool false) ∧ w = w' := by
  cases l with
  | nil => exact skip_end b _ t w h
  | cons d r => exact skip_no b c d r t w (fun e => hd (by rw [e]; rfl)) h

/-- What a reader's text must not pass, for the library's search. -/
abbrev Short (l : List UInt8) : Prop := l.length < 4294967281

set_option maxHeartbeats 400000 in
theorem rdint_yes (b : Nat) (l r : List UInt8) (t : Bool) (v : Int) (w : World) (E : Env w) (hl : Short l) (h : RdAt w b l t) (hv : rdI l = some (v, r)) :
    Calls Tryd.prog 22 #[.pointer (some ⟨b, 0, none⟩)] w (RdPost w b (.int .i64 v) r t) := by
  have HV := Lib.hid hv
  clear hv
  go_enter Tryd.func22, Tryd.ntmps22
  go_wp2_with fail
  go_step3
  go_wp2_with fail
  refine (left_any b l t _ h).mono ?_
  rintro e w1 ⟨rfl, rfl⟩
  go_wp2_with fail
  refine (cutnum_yes _ hl E (by decide) HV.out).mono ?_
  rintro e w1 ⟨rfl, g1⟩
  have h1 := h.later g1
  have f0 := h1.free 0
  have c0 := h1.cell0
  have hp := h1.put0 r
  have hg := grown_trans (grown_of_grows g1 (some b)) (grown_set w1 b 0 (.string ⟨r.toArray⟩))
  go_wp2_with fail
  rw [Exit.noGoto_ret]
  go_ret
  exact ⟨rfl, hp, hg⟩

set_option maxHeartbeats 400000 in
theorem rdint_no (b : Nat) (l : List UInt8) (t : Bool) (w : World) (E : Env w) (hl : Short l) (h : RdAt w b l t) (hv : rdI l = none) :
    Calls Tryd.prog 22 #[.pointer (some ⟨b, 0, none⟩)] w (RdPost w b (.int .i64 0) [] true) := by
  have HV := Lib.hid hv
  clear hv
  go_enter Tryd.func22, Tryd.ntmps22
  go_wp2_with fail
  refine wp_scope_jumps 0 (fun a' w' => ∃ u2 u3 u4 u5 u6 u7 u8 u9 u10 u11 u12 u13 u14 u15 u16 u17 u18 u19 u20 u21 : Value, a' = { tmps := #[.pointer (some ⟨b, 0, none⟩), undef, u2, u3, u4, u5, u6, u7, u8, u9, u10, u11, u12, u13, u14, u15, u16, u17, u18, u19, u20, u21], defers := [] } ∧ RdAt w' b l t ∧ Grows w w') (fun _ _ => 0) rfl ?_ ?_
  · go_wp2_with fail
    refine (left_any b l t _ h).mono ?_
    rintro e w1 ⟨rfl, rfl⟩
    go_wp2_with fail
    refine (cutnum_no _ hl E (by decide) HV.out).mono ?_
    rintro e w1 ⟨rfl, g1⟩
    have h1 := h.later g1
    go_wp2_with fail
    go_step3
    exact ⟨rfl, _, _, _, _, _, _, _, _, _, _, _, _, _, _, _, _, _, _, _, _, rfl, h1, g1⟩
  · rintro a' w' ⟨u2, u3, u4, u5, u6, u7, u8, u9, u10, u11, u12, u13, u14, u15, u16, u17, u18, u19, u20, u21, rfl, h1, g1⟩
    go_wp2_with fail
    refine (spoil_any b l t _ h1).mono ?_
    rintro e w2 ⟨rfl, h2, g2⟩
    have hg := grown_trans (grown_of_grows g1 (some b)) g2
    go_wp2_with fail
    simp only [Exit.jump]
    go_ret
    exact ⟨rfl, h2, hg⟩

theorem num_nil (c : UInt8) : num c [] = none := by
  unfold num
  rw [cut_no [] c (by simp)]
  simp

set_option maxHeartbeats 400000 in
theorem rdint_nil (w : World) (E : Env w) :
    Calls Tryd.prog 22 #[.pointer none] w fun e w' => e = .returned (.int .i64 0) ∧ Grows w w' := by
  go_enter Tryd.func22, Tryd.ntmps22
  go_wp2_with fail
  refine wp_scope_jumps 0 (fun a' w' => ∃ u2 u3 u4 u5 u6 u7 u8 u9 u10 u11 u12 u13 u14 u15 u16 u17 u18 u19 u20 u21 : Value, a' = { tmps := #[.pointer none, undef, u2, u3, u4, u5, u6, u7, u8, u9, u10, u11, u12, u13, u14, u15, u16, u17, u18, u19, u20, u21], defers := [] } ∧ Grows w w') (fun _ _ => 0) rfl ?_ ?_
  · go_wp2_with fail
    refine (left_nil _).mono ?_
    rintro e w1 ⟨rfl, rfl⟩
    go_wp2_with fail
    refine (cutnum_no (c := 59) (l := []) _ (by decide) E (by decide) (num_nil 59)).mono ?_
    rintro e w1 ⟨rfl, g1⟩
    go_wp2_with fail
    go_step3
    exact ⟨rfl, _, _, _, _, _, _, _, _, _, _, _, _, _, _, _, _, _, _, _, _, rfl, g1⟩
  · rintro a' w' ⟨u2, u3, u4, u5, u6, u7, u8, u9, u10, u11, u12, u13, u14, u15, u16, u17, u18, u19, u20, u21, rfl, g1⟩
    go_wp2_with fail
    refine (spoil_nil _).mono ?_
    rintro e w2 ⟨rfl, rfl⟩
    go_wp2_with fail
    simp only [Exit.jump]
    go_ret
    exact ⟨rfl, g1⟩

theorem rdT_yes {l s r : List UInt8} (h : rdT l = some (s, r)) : num 58 l = some ((s.length : Int), s ++ r) := by
  obtain ⟨h1, h2⟩ := fitsT.is l s r h
  rw [h2]
  unfold encT
  rw [List.append_assoc, List.cons_append]
  exact num_of _ (by decide) h1.in
theorem rdT_no {l : List UInt8} (h : rdT l = none) : num 58 l = none ∨ ∃ n r, num 58 l = some (n, r) ∧ (n < 0 ∨ (r.length : Int) < n) := by
  unfold rdT at h
  cases hn : num 58 l with
  | none => exact .inl rfl
  | some p =>
    obtain ⟨n, r⟩ := p
    rw [hn] at h
    simp only at h
    split at h
    · rename_i hk; exact .inr ⟨n, r, rfl, hk⟩
    · cases h
theorem extract_left (s r : List UInt8) : ByteArray.extract ⟨(s ++ r).toArray⟩ 0 s.length = ⟨s.toArray⟩ := by
  apply ByteArray.ext
  rw [ByteArray.data_extract]
  apply Array.ext'
  simp
theorem extract_right (s r : List UInt8) : ByteArray.extract ⟨(s ++ r).toArray⟩ s.length (s.length + r.length) = ⟨r.toArray⟩ := by
  apply ByteArray.ext
  rw [ByteArray.data_extract]
  apply Array.ext'
  simp

set_option maxHeartbeats 400000 in
theorem rdtext_yes (b : Nat) (l s r : List UInt8) (t : Bool) (w : World) (E : Env w) (hl : Short l) (h : RdAt w b l t) (hv : rdT l = some (s, r)) :
    Calls Tryd.prog 24 #[.pointer (some ⟨b, 0, none⟩)] w (RdPost w b (.string ⟨s.toArray⟩) r t) := by
  have HV := Lib.hid (rdT_yes hv)
  have hsr : s.length + r.length < 4294967281 := by
    have h1 := num_is HV.out
    have h2 := congrArg List.length h1.2
    simp only [List.length_append, List.length_cons] at h2
    unfold Short at hl
    omega
  clear hv
  have hx1 := extract_left s r
  have hx2 := extract_right s r
  go_enter Tryd.func24, Tryd.ntmps24
  go_wp2_with fail
  go_step3
  go_wp2_with fail
  refine (left_any b l t _ h).mono ?_
  rintro e w1 ⟨rfl, rfl⟩
  go_wp2_with fail
  refine (cutnum_yes _ hl E (by decide) HV.out).mono ?_
  rintro e w1 ⟨rfl, g1⟩
  have h1 := h.later g1
  have f0 := h1.free 0
  have c0 := h1.cell0
  have hp := h1.put0 r
  have hg := grown_trans (grown_of_grows g1 (some b)) (grown_set w1 b 0 (.string ⟨r.toArray⟩))
  go_wp2_with fail
  rw [Exit.noGoto_ret]
  go_ret
  exact ⟨rfl, hp, hg⟩

set_option maxHeartbeats 400000 in
theorem rdtext_out (b : Nat) (l : List UInt8) (t : Bool) (w : World) (E : Env w) (hl : Short l) (h : RdAt w b l t) (hv : num 58 l = none) :
    Calls Tryd.prog 24 #[.pointer (some ⟨b, 0, none⟩)] w (RdPost w b (.string ⟨#[]⟩) [] true) := by
  have HV := Lib.hid hv
  clear hv
  go_enter Tryd.func24, Tryd.ntmps24
  go_wp2_with fail
  refine wp_scope_jumps 0 (fun a' w' => ∃ u2 u3 u4 u5 u6 u7 u8 u9 u10 u11 u12 u13 u14 u15 u16 u17 u18 u19 u20 u21 u22 u23 u24 u25 u26 u27 u28 u29 u30 u31 u32 u33 : Value, a' = { tmps := #[.pointer (some ⟨b, 0, none⟩), undef, u2, u3, u4, u5, u6, u7, u8, u9, u10, u11, u12, u13, u14, u15, u16, u17, u18, u19, u20, u21, u22, u23, u24, u25, u26, u27, u28, u29, u30, u31, u32, u33], defers := [] } ∧ RdAt w' b l t ∧ Grows w w') (fun _ _ => 0) rfl ?_ ?_
  · go_wp2_with fail
    refine (left_any b l t _ h).mono ?_
    rintro e w1 ⟨rfl, rfl⟩
    go_wp2_with fail
    refine (cutnum_no _ hl E (by decide) HV.out).mono ?_
    rintro e w1 ⟨rfl, g1⟩
    have h1 := h.later g1
    go_wp2_with fail
    go_step3
    exact ⟨rfl, _, _, _, _, _, _, _, _, _, _, _, _, _, _, _, _, _, _, _, _, _, _, _, _, _, _, _, _, _, _, _, _, rfl, h1, g1⟩
  · rintro a' w' ⟨u2, u3, u4, u5, u6, u7, u8, u9, u10, u11, u12, u13, u14, u15, u16, u17, u18, u19, u20, u21, u22, u23, u24, u25, u26, u27, u28, u29, u30, u31, u32, u33, rfl, h1, g1⟩
    go_wp2_with fail
    refine (spoil_any b l t _ h1).mono ?_
    rintro e w2 ⟨rfl, h2, g2⟩
    have hg := grown_trans (grown_of_grows g1 (some b)) g2
    go_wp2_with fail
    simp only [Exit.jump]
    go_ret
    exact ⟨rfl, h2, hg⟩

set_option maxHeartbeats 400000 in
theorem rdtext_low (b : Nat) (l r : List UInt8) (n : Int) (t : Bool) (w : World) (E : Env w) (hl : Short l) (h : RdAt w b l t) (hv : num 58 l = some (n, r)) (hn : n < 0) :
    Calls Tryd.prog 24 #[.pointer (some ⟨b, 0, none⟩)] w (RdPost w b (.string ⟨#[]⟩) [] true) := by
  have HV := Lib.hid hv
  have hr : (r.length : Int) ≤ 4294967281 := by
    have h2 := congrArg List.length (num_is hv).2
    simp only [List.length_append, List.length_cons] at h2
    unfold Short at hl
    omega
  clear hv
  go_enter Tryd.func24, Tryd.ntmps24
  go_wp2_with fail
  refine wp_scope_jumps 0 (fun a' w' => ∃ u2 u3 u4 u5 u6 u7 u8 u9 u10 u11 u12 u13 u14 u15 u16 u17 u18 u19 u20 u21 u22 u23 u24 u25 u26 u27 u28 u29 u30 u31 u32 u33 : Value, a' = { tmps := #[.pointer (some ⟨b, 0, none⟩), undef, u2, u3, u4, u5, u6, u7, u8, u9, u10, u11, u12, u13, u14, u15, u16, u17, u18, u19, u20, u21, u22, u23, u24, u25, u26, u27, u28, u29, u30, u31, u32, u33], defers := [] } ∧ RdAt w' b l t ∧ Grows w w') (fun _ _ => 0) rfl ?_ ?_
  · go_wp2_with fail
    refine (left_any b l t _ h).mono ?_
    rintro e w1 ⟨rfl, rfl⟩
    go_wp2_with fail
    refine (cutnum_yes _ hl E (by decide) HV.out).mono ?_
    rintro e w1 ⟨rfl, g1⟩
    have h1 := h.later g1
    go_wp2_with fail
    go_step3
    exact ⟨rfl, _, _, _, _, _, _, _, _, _, _, _, _, _, _, _, _, _, _, _, _, _, _, _, _, _, _, _, _, _, _, _, _, rfl, h1, g1⟩
  · rintro a' w' ⟨u2, u3, u4, u5, u6, u7, u8, u9, u10, u11, u12, u13, u14, u15, u16, u17, u18, u19, u20, u21, u22, u23, u24, u25, u26, u27, u28, u29, u30, u31, u32, u33, rfl, h1, g1⟩
    go_wp2_with fail
    refine (spoil_any b l t _ h1).mono ?_
    rintro e w2 ⟨rfl, h2, g2⟩
    have hg := grown_trans (grown_of_grows g1 (some b)) g2
    go_wp2_with fail
    simp only [Exit.jump]
    go_ret
    exact ⟨rfl, h2, hg⟩

set_option maxHeartbeats 400000 in
theorem rdtext_far (b : Nat) (l r : List UInt8) (n : Int) (t : Bool) (w : World) (E : Env w) (hl : Short l) (h : RdAt w b l t) (hv : num 58 l = some (n, r)) (hn : (r.length : Int) < n) :
    Calls Tryd.prog 24 #[.pointer (some ⟨b, 0, none⟩)] w (RdPost w b (.string ⟨#[]⟩) [] true) := by
  have HV := Lib.hid hv
  have hr : (r.length : Int) ≤ 4294967281 := by
    have h2 := congrArg List.length (num_is hv).2
    simp only [List.length_append, List.length_cons] at h2
    unfold Short at hl
    omega
  clear hv
  go_enter Tryd.func24, Tryd.ntmps24
  go_wp2_with fail
  refine wp_scope_jumps 0 (fun a' w' => ∃ u2 u3 u4 u5 u6 u7 u8 u9 u10 u11 u12 u13 u14 u15 u16 u17 u18 u19 u20 u21 u22 u23 u24 u25 u26 u27 u28 u29 u30 u31 u32 u33 : Value, a' = { tmps := #[.pointer (some ⟨b, 0, none⟩), undef, u2, u3, u4, u5, u6, u7, u8, u9, u10, u11, u12, u13, u14, u15, u16, u17, u18, u19, u20, u21, u22, u23, u24, u25, u26, u27, u28, u29, u30, u31, u32, u33], defers := [] } ∧ RdAt w' b l t ∧ Grows w w') (fun _ _ => 0) rfl ?_ ?_
  · go_wp2_with fail
    refine (left_any b l t _ h).mono ?_
    rintro e w1 ⟨rfl, rfl⟩
    go_wp2_with fail
    refine (cutnum_yes _ hl E (by decide) HV.out).mono ?_
    rintro e w1 ⟨rfl, g1⟩
    have h1 := h.later g1
    go_wp2_with fail
    go_step3
    exact ⟨rfl, _, _, _, _, _, _, _, _, _, _, _, _, _, _, _, _, _, _, _, _, _, _, _, _, _, _, _, _, _, _, _, _, rfl, h1, g1⟩
  · rintro a' w' ⟨u2, u3, u4, u5, u6, u7, u8, u9, u10, u11, u12, u13, u14, u15, u16, u17, u18, u19, u20, u21, u22, u23, u24, u25, u26, u27, u28, u29, u30, u31, u32, u33, rfl, h1, g1⟩
    go_wp2_with fail
    refine (spoil_any b l t _ h1).mono ?_
    rintro e w2 ⟨rfl, h2, g2⟩
    have hg := grown_trans (grown_of_grows g1 (some b)) g2
    go_wp2_with fail
    simp only [Exit.jump]
    go_ret
    exact ⟨rfl, h2, hg⟩

theorem rdtext_no (b : Nat) (l : List UInt8) (t : Bool) (w : World) (E : Env w) (hl : Short l) (h : RdAt w b l t) (hv : rdT l = none) :
    Calls Tryd.prog 24 #[.pointer (some ⟨b, 0, none⟩)] w (RdPost w b (.string ⟨#[]⟩) [] true) := by
  rcases rdT_no hv with h1 | ⟨n, r, h1, h2 | h2⟩
  · exact rdtext_out b l t w E hl h h1
  · exact rdtext_low b l r n t w E hl h h1 h2
  · exact rdtext_far b l r n t w E hl h h1 h2

set_option maxHeartbeats 400000 in
theorem rdtext_nil (w : World) (E : Env w) :
    Calls Tryd.prog 24 #[.pointer none] w fun e w' => e = .returned (.string ⟨#[]⟩) ∧ Grows w w' := by
  go_enter Tryd.func24, Tryd.ntmps24
  go_wp2_with fail
  refine wp_scope_jumps 0 (fun a' w' => ∃ u2 u3 u4 u5 u6 u7 u8 u9 u10 u11 u12 u13 u14 u15 u16 u17 u18 u19 u20 u21 u22 u23 u24 u25 u26 u27 u28 u29 u30 u31 u32 u33 : Value, a' = { tmps := #[.pointer none, undef, u2, u3, u4, u5, u6, u7, u8, u9, u10, u11, u12, u13, u14, u15, u16, u17, u18, u19, u20, u21, u22, u23, u24, u25, u26, u27, u28, u29, u30, u31, u32, u33], defers := [] } ∧ Grows w w') (fun _ _ => 0) rfl ?_ ?_
  · go_wp2_with fail
    refine (left_nil _).mono ?_
    rintro e w1 ⟨rfl, rfl⟩
    go_wp2_with fail
    refine (cutnum_no (c := 58) (l := []) _ (by decide) E (by decide) (num_nil 58)).mono ?_
    rintro e w1 ⟨rfl, g1⟩
    go_wp2_with fail
    go_step3
    exact ⟨rfl, _, _, _, _, _, _, _, _, _, _, _, _, _, _, _, _, _, _, _, _, _, _, _, _, _, _, _, _, _, _, _, _, rfl, g1⟩
  · rintro a' w' ⟨u2, u3, u4, u5, u6, u7, u8, u9, u10, u11, u12, u13, u14, u15, u16, u17, u18, u19, u20, u21, u22, u23, u24, u25, u26, u27, u28, u29, u30, u31, u32, u33, rfl, g1⟩
    go_wp2_with fail
    refine (spoil_nil _).mono ?_
    rintro e w2 ⟨rfl, rfl⟩
    go_wp2_with fail
    simp only [Exit.jump]
    go_ret
    exact ⟨rfl, g1⟩

end Go.Proofs.YtjiljkiedidmeaaDoor
