/- The laws' own helpers: a first call that finds nothing. -/
import Derived.Test.YtjiljkiedidmeaaDoorSame
import Derived.Test.YtjiljkiedidmeaaDoorExam
namespace Go.Proofs.YtjiljkiedidmeaaDoor
open Go.RowKit Go.Lib

set_option maxHeartbeats 400000 in
theorem dec0 (b : Nat) (l : List UInt8) (t : Bool) (w : World) (E : Env w) (hl : Short l) (h : RdAt w b l t) (hv : rdI l = none) :
    Calls Tryd.prog 36 #[.pointer (some ⟨b, 0, none⟩), .int .i64 0] w (RdPost w b (.bool true) [] true) := by
  have HV := Lib.hid hv
  clear hv
  go_enter Tryd.func36, Tryd.ntmps36
  go_wp2_with fail
  refine (rdint_no b l t _ E hl h HV.out).mono ?_
  rintro e w1 ⟨rfl, h1, g1⟩
  go_wp2_with fail
  go_ret
  exact ⟨rfl, h1, g1⟩

set_option maxHeartbeats 400000 in
theorem dec1 (b : Nat) (l : List UInt8) (t : Bool) (w : World) (E : Env w) (hl : Short l) (h : RdAt w b l t) (hv : rdT l = none) :
    Calls Tryd.prog 36 #[.pointer (some ⟨b, 0, none⟩), .int .i64 1] w (RdPost w b (.bool true) [] true) := by
  have HV := Lib.hid hv
  clear hv
  go_enter Tryd.func36, Tryd.ntmps36
  go_wp2_with fail
  refine (rdtext_no b l t _ E hl h HV.out).mono ?_
  rintro e w1 ⟨rfl, h1, g1⟩
  go_wp2_with fail
  go_ret
  exact ⟨rfl, h1, g1⟩

set_option maxHeartbeats 400000 in
theorem dec2 (b : Nat) (l : List UInt8) (t : Bool) (w : World) (E : Env w) (hb : 4 ≤ b) (hl : Short l) (h : RdAt w b l t) (ht : t = true → l = []) (hv : rdL rdI l = none) :
    Calls Tryd.prog 36 #[.pointer (some ⟨b, 0, none⟩), .int .i64 2] w (RdPost w b (.bool true) [] true) := by
  have HV := Lib.hid hv
  have HT := Lib.hid ht
  clear hv ht
  go_enter Tryd.func36, Tryd.ntmps36
  go_wp2_with fail
  refine (rdints_no b l t _ E hb hl h HT.out HV.out).mono ?_
  rintro e w1 ⟨rfl, h1, g1⟩
  go_wp2_with fail
  go_ret
  exact ⟨rfl, h1, g1⟩

set_option maxHeartbeats 400000 in
theorem dec3 (b : Nat) (l : List UInt8) (t : Bool) (w : World) (E : Env w) (hb : 4 ≤ b) (hl : Short l) (h : RdAt w b l t) (ht : t = true → l = []) (hv : rdL rdT l = none) :
    Calls Tryd.prog 36 #[.pointer (some ⟨b, 0, none⟩), .int .i64 3] w (RdPost w b (.bool true) [] true) := by
  have HV := Lib.hid hv
  have HT := Lib.hid ht
  clear hv ht
  go_enter Tryd.func36, Tryd.ntmps36
  go_wp2_with fail
  refine (rdstrs_no b l t _ E hb hl h HT.out HV.out).mono ?_
  rintro e w1 ⟨rfl, h1, g1⟩
  go_wp2_with fail
  go_ret
  exact ⟨rfl, h1, g1⟩

/-- By the call's number: nothing is found. -/
def FailsAt (k : Nat) (l : List UInt8) : Prop := (k = 0 → rdI l = none) ∧ (k = 1 → rdT l = none) ∧ (k = 2 → rdL rdI l = none) ∧ (k = 3 → rdL rdT l = none)
theorem Dead.at {l : List UInt8} (h : Dead l) (k : Nat) : FailsAt k l := ⟨fun _ => h.i, fun _ => h.t, fun _ => h.is, fun _ => h.ts⟩

theorem dec_any (k b : Nat) (l : List UInt8) (t : Bool) (w : World) (E : Env w) (hb : 4 ≤ b) (hl : Short l) (h : RdAt w b l t) (ht : t = true → l = []) (hk : k < 4) (hv : FailsAt k l) :
    Calls Tryd.prog 36 #[.pointer (some ⟨b, 0, none⟩), .int .i64 (k : Int)] w (RdPost w b (.bool true) [] true) := by
  obtain ⟨h0, h1, h2, h3⟩ := hv
  match k, hk with
  | 0, _ => exact dec0 b l t w E hl h (h0 rfl)
  | 1, _ => exact dec1 b l t w E hl h (h1 rfl)
  | 2, _ => exact dec2 b l t w E hb hl h ht (h2 rfl)
  | 3, _ => exact dec3 b l t w E hb hl h ht (h3 rfl)

set_option maxHeartbeats 400000 in
theorem dec_nil0 (w : World) (E : Env w) : Calls Tryd.prog 36 #[.pointer none, .int .i64 0] w fun e w' => e = .returned (.bool true) ∧ Grows w w' := by
  go_enter Tryd.func36, Tryd.ntmps36
  go_wp2_with fail
  refine (rdint_nil _ E).mono ?_
  rintro e w1 ⟨rfl, g1⟩
  go_wp2_with fail
  go_ret
  exact ⟨rfl, g1⟩
set_option maxHeartbeats 400000 in
theorem dec_nil1 (w : World) (E : Env w) : Calls Tryd.prog 36 #[.pointer none, .int .i64 1] w fun e w' => e = .returned (.bool true) ∧ Grows w w' := by
  go_enter Tryd.func36, Tryd.ntmps36
  go_wp2_with fail
  refine (rdtext_nil _ E).mono ?_
  rintro e w1 ⟨rfl, g1⟩
  go_wp2_with fail
  go_ret
  exact ⟨rfl, g1⟩
set_option maxHeartbeats 400000 in
theorem dec_nil2 (w : World) : Calls Tryd.prog 36 #[.pointer none, .int .i64 2] w fun e w' => e = .returned (.bool true) ∧ Grows w w' := by
  go_enter Tryd.func36, Tryd.ntmps36
  go_wp2_with fail
  refine (rdints_nil _).mono ?_
  rintro e w1 ⟨rfl, rfl⟩
  go_wp2_with fail
  go_ret
  exact ⟨rfl, Below.refl _ _⟩
set_option maxHeartbeats 400000 in
theorem dec_nil3 (w : World) : Calls Tryd.prog 36 #[.pointer none, .int .i64 3] w fun e w' => e = .returned (.bool true) ∧ Grows w w' := by
  go_enter Tryd.func36, Tryd.ntmps36
  go_wp2_with fail
  refine (rdstrs_nil _).mono ?_
  rintro e w1 ⟨rfl, rfl⟩
  go_wp2_with fail
  go_ret
  exact ⟨rfl, Below.refl _ _⟩
theorem dec_nil (k : Nat) (w : World) (E : Env w) (hk : k < 4) : Calls Tryd.prog 36 #[.pointer none, .int .i64 (k : Int)] w fun e w' => e = .returned (.bool true) ∧ Grows w w' := by
  match k, hk with
  | 0, _ => exact dec_nil0 w E
  | 1, _ => exact dec_nil1 w E
  | 2, _ => exact dec_nil2 w
  | 3, _ => exact dec_nil3 w

set_option maxRecDepth 100000 in
set_option maxHeartbeats 1000000 in
theorem malformed_any (l : List UInt8) (w : World) (E : Env w) (hl : Short l) (hd : Dead l) :
    Calls Tryd.prog 37 #[.string ⟨l.toArray⟩] w fun e w' => e = .returned (.bool true) ∧ Grows w w' := by
  have HD := Lib.hid hd
  have b0 : Grows w w := Below.refl _ _
  clear hd
  go_enter Tryd.func37, Tryd.ntmps37
  go_wp2_with fail
  go_loopw [3] (fun x wr => ∃ k : Nat, k ≤ 4 ∧ x = .int .i64 k ∧ Grows w wr) (fun x _ => 4 - (RowKit.intOf x).toNat)
  case atStart => exact ⟨0, by omega, rfl, b0⟩
  case round =>
    clear b0
    obtain ⟨k, hk, rfl, b1⟩ := hrel
    by_cases hlt : k < 4
    · go_wp2_with fail
      refine (new_any l _).mono ?_
      rintro e w1 ⟨rfl, h1, g1⟩
      have b2 := b1.then g1
      have hsz := b1.size
      have hw4 := E.size
      generalize hB : wr.heap.size = B at *
      have HB := Lib.hid hB
      clear hB
      go_wp2_with fail
      refine (dec_any k B l false _ (E.grows b2) (by omega) hl h1 (by simp) hlt (HD.out.at k)).mono ?_
      rintro e w2 ⟨rfl, h2, g2⟩
      have b3 : Grows w w2 := b2.trans (below_of_grown g2 (by omega) (by have := h1.lt; omega))
      go_wp2_with fail
      refine (bad_any B [] true _ h2).mono ?_
      rintro e w3 ⟨rfl, rfl⟩
      go_wp2_with fail
      refine (wleft_any B [] true _ h2).mono ?_
      rintro e w3 ⟨rfl, rfl⟩
      go_wp2_with fail
      go_roundw
      case rel => exact ⟨k + 1, by omega, by go_num, b3⟩
      case measure => simp [RowKit.intOf]; omega
    · go_wp2_with fail
      go_ret
      exact ⟨rfl, b1⟩

end Go.Proofs.YtjiljkiedidmeaaDoor
