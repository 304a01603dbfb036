/- The reader of wire's reference: its small methods. -/
import Derived.Test.YtjiljkiedidmeaaDoorElemsNo
namespace Go.Proofs.YtjiljkiedidmeaaDoor
open Go.RowKit Go.Lib

/-- The reference's reader in block b: its text, its position, and whether it is wrong. -/
def RefAt (w : World) (b : Nat) (s : List UInt8) (k : Nat) (t : Bool) : Prop := w.heap[b]? = some (.cells #[.string ⟨s.toArray⟩, .int .i64 k, .bool t] 59 (0, 0))
section
variable {w w' : World} {b c k : Nat} {s : List UInt8} {t : Bool}
theorem RefAt.cell0 (h : RefAt w b s k t) : w.cell? ⟨b, 0, none⟩ = some (.string ⟨s.toArray⟩) := by rw [cell_of_heap h]; rfl
theorem RefAt.cell1 (h : RefAt w b s k t) : w.cell? ⟨b, 1, none⟩ = some (.int .i64 k) := by rw [cell_of_heap h]; rfl
theorem RefAt.cell2 (h : RefAt w b s k t) : w.cell? ⟨b, 2, none⟩ = some (.bool t) := by rw [cell_of_heap h]; rfl
theorem RefAt.free (h : RefAt w b s k t) (j : Nat) : w.frozen? ⟨b, j, none⟩ = false := frozen_of_heap h j
theorem RefAt.lt (h : RefAt w b s k t) : b < w.heap.size := (Array.getElem?_eq_some_iff.1 h).1
theorem RefAt.later (h : RefAt w b s k t) (hg : Grows w w') : RefAt w' b s k t := (hg.block b h.lt).trans h
theorem RefAt.other (h : RefAt w b s k t) (hg : w.grownBy w' (some c)) (hne : b ≠ c) : RefAt w' b s k t := (hg.block b h.lt (by simpa using hne)).trans h
theorem RefAt.put1 (h : RefAt w b s k t) (n : Nat) : RefAt (w.setCell ⟨b, 1, none⟩ (.int .i64 n)) b s n t := Joins.block_setCell (i := 1) h _
theorem RefAt.put2 (h : RefAt w b s k t) (u : Bool) : RefAt (w.setCell ⟨b, 2, none⟩ (.bool u)) b s k u := Joins.block_setCell (i := 2) h _
end

/-- Behind a method of the reader in block b. -/
def RefPost (w : World) (b : Nat) (v : Value) (s : List UInt8) (k : Nat) (t : Bool) (e : Ending) (w' : World) : Prop := e = .returned v ∧ RefAt w' b s k t ∧ w.grownBy w' (some b)

set_option maxHeartbeats 400000 in
theorem rnew_any (l : List UInt8) (w : World) :
    Calls Tryd.prog 21 #[.string ⟨l.toArray⟩] w fun e w' => e = .returned (.pointer (some ⟨w.heap.size, 0, none⟩)) ∧ RefAt w' w.heap.size l 0 false ∧ Grows w w' := by
  go_enter Tryd.func21, Tryd.ntmps21
  go_wp2_with fail
  go_ret
  exact ⟨rfl, heap_alloc_new w _, (Below.refl _ _).alloc (Nat.le_refl _) _⟩

set_option maxHeartbeats 400000 in
theorem rbad_any (b k : Nat) (s : List UInt8) (t : Bool) (w : World) (h : RefAt w b s k t) :
    Calls Tryd.prog 35 #[.pointer (some ⟨b, 0, none⟩)] w fun e w' => e = .returned (.bool t) ∧ w = w' := by
  have c2 := h.cell2
  go_enter Tryd.func35, Tryd.ntmps35
  go_wp2_with fail
  go_ret
  exact ⟨rfl, rfl⟩

set_option maxHeartbeats 400000 in
theorem fail_any (b k : Nat) (s : List UInt8) (t : Bool) (w : World) (h : RefAt w b s k t) :
    Calls Tryd.prog 46 #[.pointer (some ⟨b, 0, none⟩)] w (RefPost w b (.tuple #[]) s k true) := by
  have f2 := h.free 2
  have c2 := h.cell2
  have h2 := h.put2 true
  go_enter Tryd.func46, Tryd.ntmps46
  go_wp2_with fail
  go_end0
  exact ⟨rfl, h2, grown_set _ _ _ _⟩

theorem ret_i {a b : Int} (h : a = b) : Ending.returned (.int .i64 a) = .returned (.int .i64 b) := by rw [h]

set_option maxHeartbeats 400000 in
theorem rleft_wrong (b k : Nat) (s : List UInt8) (w : World) (h : RefAt w b s k true) :
    Calls Tryd.prog 33 #[.pointer (some ⟨b, 0, none⟩)] w fun e w' => e = .returned (.int .i64 0) ∧ ∃ n, w' = w.drewN n := by
  have c2 := h.cell2
  go_enter Tryd.func33, Tryd.ntmps33
  go_wp2_with fail
  go_ret
  exact ⟨rfl, 0, rfl⟩

set_option maxHeartbeats 400000 in
theorem rleft_right (b k m : Nat) (s : List UInt8) (w : World) (hm : s.length = k + m) (hs : Short s) (h : RefAt w b s k false) :
    Calls Tryd.prog 33 #[.pointer (some ⟨b, 0, none⟩)] w fun e w' => e = .returned (.int .i64 m) ∧ ∃ n, w' = w.drewN n := by
  have HM := Lib.hid hm
  have hk : k ≤ s.length := by omega
  unfold Short at hs
  clear hm
  have c0 := h.cell0
  have c1 := h.cell1
  have c2 := h.cell2
  go_enter Tryd.func33, Tryd.ntmps33
  go_wp2_with fail
  go_quiet (fail)
  go_wp2_with fail
  go_ret
  exact ⟨ret_i (by have := HM.out; omega), nq, rfl⟩

theorem at_drop {s r : List UInt8} {k : Nat} {c : UInt8} (h : s.drop k = c :: r) : k < s.length ∧ s[k]? = some c ∧ s.drop (k + 1) = r ∧ (s.drop k).length = s.length - k := by
  have h1 : k < s.length := by
    rcases Nat.lt_or_ge k s.length with h1 | h1
    · exact h1
    · rw [List.drop_eq_nil_of_le h1] at h; cases h
  refine ⟨h1, ?_, ?_, by simp⟩
  · have := congrArg List.head? h
    rw [List.head?_drop] at this
    simpa using this
  · have := congrArg List.tail h
    rw [List.tail_drop] at this
    simpa using this
theorem byte_at {s : List UInt8} {k : Nat} {c : UInt8} (h : s[k]? = some c) (hk : k < (⟨s.toArray⟩ : ByteArray).size) : (⟨s.toArray⟩ : ByteArray)[k] = c := by
  have h1 : k < s.length := by simpa [ByteArray.size] using hk
  rw [List.getElem?_eq_getElem h1] at h
  simp only [Option.some.injEq] at h
  rw [← h]
  rfl

set_option maxRecDepth 100000 in
set_option maxHeartbeats 400000 in
theorem rbyte_yes (b k : Nat) (s r : List UInt8) (c : UInt8) (w : World) (hs : Short s) (h : RefAt w b s k false) (hd : s.drop k = c :: r) :
    Calls Tryd.prog 48 #[.pointer (some ⟨b, 0, none⟩), .int .u8 (c.toNat : Int)] w (RefPost w b (.bool true) s (k + 1) false) := by
  obtain ⟨h1, h2, h3, h4⟩ := at_drop hd
  unfold Short at hs
  clear hd h3 h4
  obtain ⟨m, hm⟩ : ∃ m, s.length = k + m := ⟨s.length - k, by omega⟩
  have hk1 : (k : Int) < (s.length : Int) := by omega
  have hz : ((m : Int) == 0) = false := by rw [beq_eq_false_iff_ne]; omega
  have HM := Lib.hid hm
  clear hm
  go_enter Tryd.func48, Tryd.ntmps48
  go_wp2_with fail
  refine (rleft_right b k m s _ HM.out hs h).mono ?_
  rintro e w1 ⟨rfl, n, rfl⟩
  have g1 := grows_drewN w n
  generalize w.drewN n = w1 at *
  have r1 := h.later g1
  have c0 := r1.cell0
  have c1 := r1.cell1
  have hi := byte_at h2 (by simpa [ByteArray.size] using h1)
  have hb : ((c.toNat : Int) != (c.toNat : Int)) = false := by simp
  have hk0 : (0 : Int) ≤ (k : Int) := by omega
  clear h2
  go_wp2_with fail
  go_quiet (fail)
  have g2 := g1.then (grows_drewN w1 nq)
  have r2 := r1.later (grows_drewN w1 nq)
  generalize w1.drewN nq = w2 at *
  have c1 := r2.cell1
  have f1 := r2.free 1
  have r3 := r2.put1 (k + 1)
  go_wp2_with fail
  go_ret
  exact ⟨rfl, r3, grown_trans (grown_of_grows g2 _) (grown_set _ _ _ _)⟩

set_option maxRecDepth 100000 in
set_option maxHeartbeats 400000 in
theorem rbyte_other (b k : Nat) (s : List UInt8) (c d : UInt8) (w : World) (hs : Short s) (h : RefAt w b s k false) (h1 : k < s.length) (h2 : s[k]? = some d) (hne : d ≠ c) :
    Calls Tryd.prog 48 #[.pointer (some ⟨b, 0, none⟩), .int .u8 (c.toNat : Int)] w fun e w' => e = .returned (.bool false) ∧ ∃ n, w' = w.drewN n := by
  unfold Short at hs
  obtain ⟨m, hm⟩ : ∃ m, s.length = k + m := ⟨s.length - k, by omega⟩
  have hk1 : (k : Int) < (s.length : Int) := by omega
  have hz : ((m : Int) == 0) = false := by rw [beq_eq_false_iff_ne]; omega
  have HM := Lib.hid hm
  have hb : ((d.toNat : Int) != (c.toNat : Int)) = true := by
    rw [bne_iff_ne]; intro e; exact hne (UInt8.toNat_inj.1 (Int.ofNat_inj.1 e))
  clear hm hne
  go_enter Tryd.func48, Tryd.ntmps48
  go_wp2_with fail
  refine (rleft_right b k m s _ HM.out hs h).mono ?_
  rintro e w1 ⟨rfl, n, rfl⟩
  have r1 := h.later (grows_drewN w n)
  have c0 := r1.cell0
  have c1 := r1.cell1
  have hi := byte_at h2 (by simpa [ByteArray.size] using h1)
  have hk0 : (0 : Int) ≤ (k : Int) := by omega
  clear h2
  generalize hw : w.drewN n = w1 at *
  have HW := Lib.hid hw
  clear hw
  go_wp2_with fail
  go_quiet (fail)
  go_wp2_with fail
  go_ret
  exact ⟨rfl, n + nq, by rw [← HW.out, World.drewN_drewN]⟩

set_option maxRecDepth 100000 in
set_option maxHeartbeats 400000 in
theorem rbyte_end (b k : Nat) (s : List UInt8) (c : Int) (w : World) (hs : Short s) (h : RefAt w b s k false) (h1 : k = s.length) :
    Calls Tryd.prog 48 #[.pointer (some ⟨b, 0, none⟩), .int .u8 c] w fun e w' => e = .returned (.bool false) ∧ ∃ n, w' = w.drewN n := by
  have HM := Lib.hid (show s.length = k + 0 by omega)
  clear h1
  go_enter Tryd.func48, Tryd.ntmps48
  go_wp2_with fail
  refine (rleft_right b k 0 s _ HM.out hs h).mono ?_
  rintro e w1 ⟨rfl, n, rfl⟩
  generalize hw : w.drewN n = w1 at *
  have HW := Lib.hid hw
  clear hw
  go_wp2_with fail
  go_quiet (fail)
  go_wp2_with fail
  go_ret
  exact ⟨rfl, n + nq, by rw [← HW.out, World.drewN_drewN]⟩

set_option maxRecDepth 100000 in
set_option maxHeartbeats 400000 in
theorem rbyte_wrong (b k : Nat) (s : List UInt8) (c : Int) (w : World) (h : RefAt w b s k true) :
    Calls Tryd.prog 48 #[.pointer (some ⟨b, 0, none⟩), .int .u8 c] w fun e w' => e = .returned (.bool false) ∧ ∃ n, w' = w.drewN n := by
  go_enter Tryd.func48, Tryd.ntmps48
  go_wp2_with fail
  refine (rleft_wrong b k s _ h).mono ?_
  rintro e w1 ⟨rfl, n, rfl⟩
  generalize hw : w.drewN n = w1 at *
  have HW := Lib.hid hw
  clear hw
  go_wp2_with fail
  go_quiet (fail)
  go_wp2_with fail
  go_ret
  exact ⟨rfl, n + nq, by rw [← HW.out, World.drewN_drewN]⟩

/-- What a reader of the reference has left. -/
def leftOf (s : List UInt8) (k : Nat) (t : Bool) : List UInt8 := if t then [] else s.drop k

theorem rbyte_not (b k : Nat) (s : List UInt8) (t : Bool) (c : UInt8) (w : World) (hs : Short s) (hk : k ≤ s.length) (h : RefAt w b s k t) (hd : (leftOf s k t).head? ≠ some c) :
    Calls Tryd.prog 48 #[.pointer (some ⟨b, 0, none⟩), .int .u8 (c.toNat : Int)] w fun e w' => e = .returned (.bool false) ∧ ∃ n, w' = w.drewN n := by
  cases t with
  | true => exact rbyte_wrong b k s _ w h
  | false =>
    by_cases h1 : k < s.length
    · have h2 := List.getElem?_eq_getElem h1
      refine rbyte_other b k s c s[k] w hs h h1 h2 ?_
      intro e
      apply hd
      unfold leftOf
      rw [if_neg (by simp), List.head?_drop, h2, e]
    · exact rbyte_end b k s _ w hs h (by omega)

end Go.Proofs.YtjiljkiedidmeaaDoor
