/- The reference's reader: Int and Text. -/
import Derived.Test.YtjiljkiedidmeaaDoorRInt
namespace Go.Proofs.YtjiljkiedidmeaaDoor
open Go.RowKit Go.Lib

/-- Behind a method of the reference's reader in block b: what it has left is l, unless it is wrong. -/
def RefOut (w : World) (b : Nat) (v : Value) (s l : List UInt8) (t : Bool) (e : Ending) (w' : World) : Prop :=
  ∃ k', k' ≤ s.length ∧ (t = false → s.drop k' = l) ∧ e = .returned v ∧ RefAt w' b s k' t ∧ w.grownBy w' (some b)

set_option maxHeartbeats 400000 in
theorem rrint_yes (b k : Nat) (s r : List UInt8) (v : Int) (w : World) (hs : Short s) (h : RefAt w b s k false) (hv : rdI (s.drop k) = some (v, r)) :
    Calls Tryd.prog 23 #[.pointer (some ⟨b, 0, none⟩)] w (RefOut w b (.int .i64 v) s r false) := by
  have HV := Lib.hid hv
  clear hv
  go_enter Tryd.func23, Tryd.ntmps23
  go_wp2_with fail
  refine (number_yes b k s r 59 v _ hs h (by decide) HV.out).mono ?_
  rintro e w1 ⟨k', h1, h2, rfl, h3, h4⟩
  have H2 := Lib.hid h2
  clear h2
  go_wp2_with fail
  go_ret
  exact ⟨k', h1, fun _ => H2.out, rfl, h3, h4⟩

set_option maxHeartbeats 400000 in
theorem rrint_no (b k : Nat) (s : List UInt8) (w : World) (hs : Short s) (hk : k ≤ s.length) (h : RefAt w b s k false) (hv : rdI (s.drop k) = none) :
    Calls Tryd.prog 23 #[.pointer (some ⟨b, 0, none⟩)] w (RefOut w b (.int .i64 0) s [] true) := by
  have HV := Lib.hid hv
  clear hv
  go_enter Tryd.func23, Tryd.ntmps23
  go_wp2_with fail
  refine (number_no b k s 59 _ hs hk h (by decide) HV.out).mono ?_
  rintro e w1 ⟨rfl, g1⟩
  have h1 := h.later g1
  go_wp2_with fail
  refine (fail_any b k s false _ h1).mono ?_
  rintro e w2 ⟨rfl, h2, g2⟩
  have g3 := grown_trans (grown_of_grows g1 (some b)) g2
  go_wp2_with fail
  go_ret
  exact ⟨k, hk, (fun e => by cases e), rfl, h2, g3⟩

set_option maxHeartbeats 400000 in
theorem rrint_wrong (b k : Nat) (s : List UInt8) (w : World) (hk : k ≤ s.length) (h : RefAt w b s k true) :
    Calls Tryd.prog 23 #[.pointer (some ⟨b, 0, none⟩)] w (RefOut w b (.int .i64 0) s [] true) := by
  go_enter Tryd.func23, Tryd.ntmps23
  go_wp2_with fail
  refine (number_wrong b k s 59 _ h).mono ?_
  rintro e w1 ⟨rfl, rfl⟩
  go_wp2_with fail
  refine (fail_any b k s true _ h).mono ?_
  rintro e w2 ⟨rfl, h2, g2⟩
  go_wp2_with fail
  go_ret
  exact ⟨k, hk, (fun e => by cases e), rfl, h2, g2⟩

set_option maxRecDepth 100000 in
set_option maxHeartbeats 400000 in
theorem rrtext_yes (b k : Nat) (s a r : List UInt8) (w : World) (hs : Short s) (h : RefAt w b s k false) (hv : rdT (s.drop k) = some (a, r)) :
    Calls Tryd.prog 25 #[.pointer (some ⟨b, 0, none⟩)] w (RefOut w b (.string ⟨a.toArray⟩) s r false) := by
  have HV := Lib.hid (rdT_yes hv)
  clear hv
  go_enter Tryd.func25, Tryd.ntmps25
  go_wp2_with fail
  refine (number_yes b k s _ 58 _ _ hs h (by decide) HV.out).mono ?_
  rintro e w1 ⟨k', h1, h2, rfl, h3, h4⟩
  clear HV
  have hlen : s.length = k' + (a.length + r.length) := by
    have := congrArg List.length h2
    simp only [List.length_drop, List.length_append] at this
    omega
  have hex : ByteArray.extract ⟨s.toArray⟩ k' (k' + a.length) = ⟨a.toArray⟩ := by rw [extract_mid, h2]; simp
  have hdr : s.drop (k' + a.length) = r := by rw [← List.drop_drop, h2]; simp
  have HX := Lib.hid hex
  have HD := Lib.hid hdr
  have HL := Lib.hid hlen
  unfold Short at hs
  have hle : k' + a.length ≤ s.length := by omega
  clear h2 hex hdr hlen
  go_wp2_with fail
  refine (rleft_right b k' (a.length + r.length) s _ HL.out hs h3).mono ?_
  rintro e w2 ⟨rfl, n, rfl⟩
  have g2 := grows_drewN w1 n
  have h5 := h3.later g2
  have g3 := grown_trans h4 (grown_of_grows g2 (some b))
  generalize w1.drewN n = w2 at *
  clear h3 h4 g2
  have c0 := h5.cell0
  have c1 := h5.cell1
  go_wp2_with fail
  have q1 : IntKind.i64.wrap ((k' : Int) + (a.length : Int)) = (k' : Int) + (a.length : Int) := IntWalk.i64_in _ (by omega)
  have q2 : (0 : Int) ≤ (k' : Int) + (a.length : Int) := by omega
  have q3 : ((k' : Int) + (a.length : Int)).toNat = k' + a.length := by omega
  have q4 : (k' : Int) ≤ (k' : Int) + (a.length : Int) := by omega
  have q5 : (k' : Int) + (a.length : Int) ≤ (s.length : Int) := by omega
  have q6 : (0 : Int) ≤ (k' : Int) := by omega
  have hx := HX.out
  go_quiet (fail)
  clear q1 q3 hx c0 c1
  have h6 := h5.later (grows_drewN w2 nq)
  have g4 := grown_trans g3 (grown_of_grows (grows_drewN w2 nq) (some b))
  generalize w2.drewN nq = w3 at *
  clear h5 g3
  have f1 := h6.free 1
  have c1 := h6.cell1
  have h7 := h6.put1 (k' + a.length)
  have g5 := grown_trans g4 (grown_set w3 b 1 (.int .i64 ((k' + a.length : Nat) : Int)))
  go_wp2_with fail
  go_ret
  exact ⟨k' + a.length, hle, fun _ => HD.out, rfl, h7, g5⟩

set_option maxHeartbeats 400000 in
theorem rrtext_out (b k : Nat) (s : List UInt8) (w : World) (hs : Short s) (hk : k ≤ s.length) (h : RefAt w b s k false) (hv : num 58 (s.drop k) = none) :
    Calls Tryd.prog 25 #[.pointer (some ⟨b, 0, none⟩)] w (RefOut w b (.string ⟨#[]⟩) s [] true) := by
  have HV := Lib.hid hv
  clear hv
  go_enter Tryd.func25, Tryd.ntmps25
  go_wp2_with fail
  refine (number_no b k s 58 _ hs hk h (by decide) HV.out).mono ?_
  rintro e w1 ⟨rfl, g1⟩
  have h1 := h.later g1
  go_wp2_with fail
  refine (fail_any b k s false _ h1).mono ?_
  rintro e w2 ⟨rfl, h2, g2⟩
  have g3 := grown_trans (grown_of_grows g1 (some b)) g2
  go_wp2_with fail
  go_ret
  exact ⟨k, hk, (fun e => by cases e), rfl, h2, g3⟩

set_option maxHeartbeats 400000 in
theorem rrtext_low (b k : Nat) (s r : List UInt8) (n : Int) (w : World) (hs : Short s) (h : RefAt w b s k false) (hv : num 58 (s.drop k) = some (n, r)) (hn : n < 0) :
    Calls Tryd.prog 25 #[.pointer (some ⟨b, 0, none⟩)] w (RefOut w b (.string ⟨#[]⟩) s [] true) := by
  have HV := Lib.hid hv
  clear hv
  go_enter Tryd.func25, Tryd.ntmps25
  go_wp2_with fail
  refine (number_yes b k s _ 58 n _ hs h (by decide) HV.out).mono ?_
  rintro e w1 ⟨k', h1, h2, rfl, h3, h4⟩
  clear h2
  go_wp2_with fail
  refine (fail_any b k' s false _ h3).mono ?_
  rintro e w2 ⟨rfl, h5, g2⟩
  have g3 := grown_trans h4 g2
  go_wp2_with fail
  go_ret
  exact ⟨k', h1, (fun e => by cases e), rfl, h5, g3⟩

set_option maxHeartbeats 400000 in
theorem rrtext_far (b k : Nat) (s r : List UInt8) (n : Int) (w : World) (hs : Short s) (h : RefAt w b s k false) (hv : num 58 (s.drop k) = some (n, r)) (hn : (r.length : Int) < n) :
    Calls Tryd.prog 25 #[.pointer (some ⟨b, 0, none⟩)] w (RefOut w b (.string ⟨#[]⟩) s [] true) := by
  have HV := Lib.hid hv
  clear hv
  go_enter Tryd.func25, Tryd.ntmps25
  go_wp2_with fail
  refine (number_yes b k s _ 58 n _ hs h (by decide) HV.out).mono ?_
  rintro e w1 ⟨k', h1, h2, rfl, h3, h4⟩
  have HL : Hid (s.length = k' + r.length) := by
    have := congrArg List.length h2
    simp only [List.length_drop] at this
    show _ = _
    omega
  clear h2
  go_wp2_with fail
  refine (rleft_right b k' r.length s _ HL.out hs h3).mono ?_
  rintro e w2 ⟨rfl, m, rfl⟩
  have g2 := grows_drewN w1 m
  have h5 := h3.later g2
  have g3 := grown_trans h4 (grown_of_grows g2 (some b))
  generalize w1.drewN m = w2 at *
  clear h3 h4 g2
  go_wp2_with fail
  refine (fail_any b k' s false _ h5).mono ?_
  rintro e w3 ⟨rfl, h6, g4⟩
  have g5 := grown_trans g3 g4
  go_wp2_with fail
  go_ret
  exact ⟨k', h1, (fun e => by cases e), rfl, h6, g5⟩

set_option maxHeartbeats 400000 in
theorem rrtext_wrong (b k : Nat) (s : List UInt8) (w : World) (hk : k ≤ s.length) (h : RefAt w b s k true) :
    Calls Tryd.prog 25 #[.pointer (some ⟨b, 0, none⟩)] w (RefOut w b (.string ⟨#[]⟩) s [] true) := by
  go_enter Tryd.func25, Tryd.ntmps25
  go_wp2_with fail
  refine (number_wrong b k s 58 _ h).mono ?_
  rintro e w1 ⟨rfl, rfl⟩
  go_wp2_with fail
  refine (fail_any b k s true _ h).mono ?_
  rintro e w2 ⟨rfl, h2, g2⟩
  go_wp2_with fail
  go_ret
  exact ⟨k, hk, (fun e => by cases e), rfl, h2, g2⟩

theorem rrtext_no (b k : Nat) (s : List UInt8) (w : World) (hs : Short s) (hk : k ≤ s.length) (h : RefAt w b s k false) (hv : rdT (s.drop k) = none) :
    Calls Tryd.prog 25 #[.pointer (some ⟨b, 0, none⟩)] w (RefOut w b (.string ⟨#[]⟩) s [] true) := by
  rcases rdT_no hv with h1 | ⟨n, r, h1, h2 | h2⟩
  · exact rrtext_out b k s w hs hk h h1
  · exact rrtext_low b k s r n w hs h h1 h2
  · exact rrtext_far b k s r n w hs h h1 h2

end Go.Proofs.YtjiljkiedidmeaaDoor
