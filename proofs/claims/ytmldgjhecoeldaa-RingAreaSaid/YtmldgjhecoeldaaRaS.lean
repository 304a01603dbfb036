/- ring.RaySpot: whether a segment between two spots passes to the left of a point. The reference's RaySpot. ring.RaySpot. -/
import Derived.Test.YtmldgjhecoeldaaRRy
import Derived.Test.YtmldgjhecoeldaaSpotS
import Derived.Test.YtmldgjhecoeldaaRSpotS
import Derived.Test.YtmldgjhecoeldaaAny
namespace Go.Proofs.Ytmldgjhecoeldaa
open Go.RowKit Go.Lib

theorem Has.tri {w0 w : World} {A : Nat} {a b c : Value} {bs : List (Nat × List Value)} (h : Has w0 ((A, [a, b, c]) :: bs) w) : w.cell? ⟨A, 0, none⟩ = some a ∧ w.cell? ⟨A, 1, none⟩ = some b ∧ w.cell? ⟨A, 2, none⟩ = some c :=
  ⟨h.fact (.head _) (i := 0) rfl, h.fact (.head _) (i := 1) rfl, h.fact (.head _) (i := 2) rfl⟩
/-- A spot is higher than a point. -/
def abS (y d h : Int) : Bool := decide (0 < cmpOf y d h 1)

theorem sabove_any (x y d h : Int) (R : Nat) (w w0 : World) (bs : List (Nat × List Value)) (hH : Has w0 ((R, [.int .i64 h, .int .i64 1]) :: bs) w) (h1 : (-9223372036854775808 ≤ y ∧ y ≤ 9223372036854775807)) (h2 : (-9223372036854775808 ≤ d ∧ d ≤ 9223372036854775807)) (h3 : (-9223372036854775808 ≤ h ∧ h ≤ 9223372036854775807)) :
    Calls Try.prog 44 #[.agg #[.int .i64 x, .int .i64 y, .int .i64 d], .pointer (some ⟨R, 0, none⟩)] w fun e w' => e = .returned (.bool (abS y d h)) ∧ Below w.heap.size w w' := by
  have D0 := hH.push [.int .i64 x, .int .i64 y, .int .i64 d] 39
  have gr : Grows w (w.alloc (.cells #[.int .i64 x, .int .i64 y, .int .i64 d] 39)) := (Below.refl _ w).alloc (Nat.le_refl _) _
  change Has w0 _ (w.alloc (.cells #[.int .i64 x, .int .i64 y, .int .i64 d] 39)) at D0
  obtain ⟨k0, k1, k2⟩ := D0.tri
  obtain ⟨k3, k4⟩ := D0.tail.pt
  go_enter Try.func44, Try.ntmps44
  go_wp2_with fail
  generalize w.alloc (.cells #[.int .i64 x, .int .i64 y, .int .i64 d] 39) = w1 at *
  refine (cmp_any y d h 1 _ h1 h2 h3 (by omega)).mono ?_
  rintro e w2 ⟨rfl, g⟩
  go_wp2_with fail
  go_ret
  exact ⟨rfl, gr.then g⟩
theorem sside_c (a0 a1 a2 b0 b1 b2 p0 p1 : Int) (S : Nat) (w w0 : World) (bs : List (Nat × List Value)) (hH : Has w0 ((S, [.int .i64 p0, .int .i64 p1, .int .i64 1]) :: bs) w) :
    Calls Try.prog 46 #[.agg #[.int .i64 a0, .int .i64 a1, .int .i64 a2], .agg #[.int .i64 b0, .int .i64 b1, .int .i64 b2], .pointer (some ⟨S, 0, none⟩)] w fun e w' => e = .returned (.int .i64 (sideS a0 a1 a2 b0 b1 b2 p0 p1 1)) ∧ Below w.heap.size w w' := by
  have D0 := (hH.push [.int .i64 a0, .int .i64 a1, .int .i64 a2] 39).push [.int .i64 b0, .int .i64 b1, .int .i64 b2] 39
  rw [size_alloc] at D0
  change Has w0 _ ((w.alloc (.cells #[.int .i64 a0, .int .i64 a1, .int .i64 a2] 39)).alloc (.cells #[.int .i64 b0, .int .i64 b1, .int .i64 b2] 39)) at D0
  have gr : Grows w ((w.alloc (.cells #[.int .i64 a0, .int .i64 a1, .int .i64 a2] 39)).alloc (.cells #[.int .i64 b0, .int .i64 b1, .int .i64 b2] 39)) := ((Below.refl _ w).alloc (Nat.le_refl _) _).alloc (by simp) _
  obtain ⟨k0, k1, k2⟩ := D0.tri
  obtain ⟨k3, k4, k5⟩ := D0.tail.tri
  obtain ⟨k6, k7, k8⟩ := D0.tail.tail.tri
  go_enter Try.func46, Try.ntmps46
  go_wp2_with fail
  generalize (w.alloc (.cells #[.int .i64 a0, .int .i64 a1, .int .i64 a2] 39)).alloc (.cells #[.int .i64 b0, .int .i64 b1, .int .i64 b2] 39) = w1 at *
  go_wp2_with fail
  refine (spotSide_any a0 a1 a2 b0 b1 b2 p0 p1 1 _).mono ?_
  rintro e w2 ⟨rfl, g⟩
  go_wp2_with fail
  go_ret
  exact ⟨rfl, gr.then g⟩
theorem sabove_is (x y d h : Int) (R : Nat) (w w0 : World) (bs : List (Nat × List Value)) (hH : Has w0 ((R, [.int .i64 h, .int .i64 1]) :: bs) w) (h1 : (-9223372036854775808 ≤ y ∧ y ≤ 9223372036854775807)) (h2 : (-9223372036854775808 ≤ d ∧ d ≤ 9223372036854775807)) (h3 : (-9223372036854775808 ≤ h ∧ h ≤ 9223372036854775807)) (r : Bool) (hr : abS y d h = r) :
    Calls Try.prog 44 #[.agg #[.int .i64 x, .int .i64 y, .int .i64 d], .pointer (some ⟨R, 0, none⟩)] w fun e w' => e = .returned (.bool r) ∧ Below w.heap.size w w' := hr ▸ sabove_any x y d h R w w0 bs hH h1 h2 h3
theorem sside_ci (a0 a1 a2 b0 b1 b2 p0 p1 : Int) (S : Nat) (w w0 : World) (bs : List (Nat × List Value)) (hH : Has w0 ((S, [.int .i64 p0, .int .i64 p1, .int .i64 1]) :: bs) w) (s : Int) (hs : sideS a0 a1 a2 b0 b1 b2 p0 p1 1 = s) :
    Calls Try.prog 46 #[.agg #[.int .i64 a0, .int .i64 a1, .int .i64 a2], .agg #[.int .i64 b0, .int .i64 b1, .int .i64 b2], .pointer (some ⟨S, 0, none⟩)] w fun e w' => e = .returned (.int .i64 s) ∧ Below w.heap.size w w' := hs ▸ sside_c a0 a1 a2 b0 b1 b2 p0 p1 S w w0 bs hH
/-- A segment passes upwards. -/
def upS (a0 a1 a2 b0 b1 b2 p0 p1 : Int) : Bool := !abS a1 a2 p1 && (abS b1 b2 p1 && decide (sideS a0 a1 a2 b0 b1 b2 p0 p1 1 < 0))

set_option maxHeartbeats 1000000 in
theorem sup_any (a0 a1 a2 b0 b1 b2 p0 p1 : Int) (S R : Nat) (w w0 : World) (bs : List (Nat × List Value)) (hH : Has w0 ((S, [.int .i64 p0, .int .i64 p1, .int .i64 1]) :: (R, [.int .i64 p1, .int .i64 1]) :: bs) w) (h1 : (-9223372036854775808 ≤ a1 ∧ a1 ≤ 9223372036854775807)) (h2 : (-9223372036854775808 ≤ a2 ∧ a2 ≤ 9223372036854775807)) (h3 : (-9223372036854775808 ≤ b1 ∧ b1 ≤ 9223372036854775807)) (h4 : (-9223372036854775808 ≤ b2 ∧ b2 ≤ 9223372036854775807)) (h5 : (-9223372036854775808 ≤ p1 ∧ p1 ≤ 9223372036854775807)) :
    Calls Try.prog 77 #[.agg #[.func (.func 44) #[] #[.pointer (some ⟨R, 0, none⟩)], .func (.func 46) #[] #[.pointer (some ⟨S, 0, none⟩)]], .agg #[.int .i64 a0, .int .i64 a1, .int .i64 a2], .agg #[.int .i64 b0, .int .i64 b1, .int .i64 b2]] w fun e w' => e = .returned (.bool (upS a0 a1 a2 b0 b1 b2 p0 p1)) ∧ Below w.heap.size w w' := by
  obtain ⟨r1, e1⟩ : ∃ r, abS a1 a2 p1 = r := ⟨_, rfl⟩
  obtain ⟨r2, e2⟩ : ∃ r, abS b1 b2 p1 = r := ⟨_, rfl⟩
  obtain ⟨s, e3⟩ : ∃ s, sideS a0 a1 a2 b0 b1 b2 p0 p1 1 = s := ⟨_, rfl⟩
  have hR : upS a0 a1 a2 b0 b1 b2 p0 p1 = (!r1 && (r2 && decide (s < 0))) := by unfold upS; rw [e1, e2, e3]
  rw [hR]
  have H1 := Lib.hid e1
  have H2 := Lib.hid e2
  have H3 := Lib.hid e3
  clear e1 e2 e3 hR
  have D0 := ((hH.push [.func (.func 44) #[] #[.pointer (some ⟨R, 0, none⟩)], .func (.func 46) #[] #[.pointer (some ⟨S, 0, none⟩)]] 78).push [.int .i64 a0, .int .i64 a1, .int .i64 a2] 39).push [.int .i64 b0, .int .i64 b1, .int .i64 b2] 39
  rw [size_alloc, size_alloc] at D0
  change Has w0 ((w.heap.size + 2, [.int .i64 b0, .int .i64 b1, .int .i64 b2]) :: (w.heap.size + 1, [.int .i64 a0, .int .i64 a1, .int .i64 a2]) :: (w.heap.size, [.func (.func 44) #[] #[.pointer (some ⟨R, 0, none⟩)], .func (.func 46) #[] #[.pointer (some ⟨S, 0, none⟩)]]) :: (S, [.int .i64 p0, .int .i64 p1, .int .i64 1]) :: (R, [.int .i64 p1, .int .i64 1]) :: bs) (((w.alloc (.cells #[.func (.func 44) #[] #[.pointer (some ⟨R, 0, none⟩)], .func (.func 46) #[] #[.pointer (some ⟨S, 0, none⟩)]] 78)).alloc (.cells #[.int .i64 a0, .int .i64 a1, .int .i64 a2] 39)).alloc (.cells #[.int .i64 b0, .int .i64 b1, .int .i64 b2] 39)) at D0
  have gr : Grows w (((w.alloc (.cells #[.func (.func 44) #[] #[.pointer (some ⟨R, 0, none⟩)], .func (.func 46) #[] #[.pointer (some ⟨S, 0, none⟩)]] 78)).alloc (.cells #[.int .i64 a0, .int .i64 a1, .int .i64 a2] 39)).alloc (.cells #[.int .i64 b0, .int .i64 b1, .int .i64 b2] 39)) := (((Below.refl _ w).alloc (Nat.le_refl _) _).alloc (by simp) _).alloc (by simp; omega) _
  obtain ⟨k0, k1, k2⟩ := D0.tri
  obtain ⟨k3, k4, k5⟩ := D0.tail.tri
  obtain ⟨k6, k7⟩ := D0.tail.tail.pt
  cases r1
  · cases r2
    · skip
      go_enter Try.func77, Try.ntmps77
      go_wp2_with fail
      generalize (((w.alloc (.cells #[.func (.func 44) #[] #[.pointer (some ⟨R, 0, none⟩)], .func (.func 46) #[] #[.pointer (some ⟨S, 0, none⟩)]] 78)).alloc (.cells #[.int .i64 a0, .int .i64 a1, .int .i64 a2] 39)).alloc (.cells #[.int .i64 b0, .int .i64 b1, .int .i64 b2] 39)) = w1 at *
      go_wp2_with fail
      refine (sabove_is a0 a1 a2 p1 R _ _ _ D0.tail.tail.tail.tail h1 h2 h5 _ H1.out).mono ?_
      rintro e w2 ⟨rfl, g2⟩
      clear k0 k1 k2 k3 k4 k5 k6 k7
      have D1 := D0.later g2
      obtain ⟨k0, k1, k2⟩ := D1.tri
      obtain ⟨k3, k4, k5⟩ := D1.tail.tri
      obtain ⟨k6, k7⟩ := D1.tail.tail.pt
      go_wp2_with fail
      refine (sabove_is b0 b1 b2 p1 R _ _ _ D1.tail.tail.tail.tail h3 h4 h5 _ H2.out).mono ?_
      rintro e w3 ⟨rfl, g3⟩
      clear k0 k1 k2 k3 k4 k5 k6 k7
      go_wp2_with fail
      go_ret
      exact ⟨rfl, (gr.then g2).then g3⟩
    · skip
      go_enter Try.func77, Try.ntmps77
      go_wp2_with fail
      generalize (((w.alloc (.cells #[.func (.func 44) #[] #[.pointer (some ⟨R, 0, none⟩)], .func (.func 46) #[] #[.pointer (some ⟨S, 0, none⟩)]] 78)).alloc (.cells #[.int .i64 a0, .int .i64 a1, .int .i64 a2] 39)).alloc (.cells #[.int .i64 b0, .int .i64 b1, .int .i64 b2] 39)) = w1 at *
      go_wp2_with fail
      refine (sabove_is a0 a1 a2 p1 R _ _ _ D0.tail.tail.tail.tail h1 h2 h5 _ H1.out).mono ?_
      rintro e w2 ⟨rfl, g2⟩
      clear k0 k1 k2 k3 k4 k5 k6 k7
      have D1 := D0.later g2
      obtain ⟨k0, k1, k2⟩ := D1.tri
      obtain ⟨k3, k4, k5⟩ := D1.tail.tri
      obtain ⟨k6, k7⟩ := D1.tail.tail.pt
      go_wp2_with fail
      refine (sabove_is b0 b1 b2 p1 R _ _ _ D1.tail.tail.tail.tail h3 h4 h5 _ H2.out).mono ?_
      rintro e w3 ⟨rfl, g3⟩
      clear k0 k1 k2 k3 k4 k5 k6 k7
      have D2 := D1.later g3
      obtain ⟨k0, k1, k2⟩ := D2.tri
      obtain ⟨k3, k4, k5⟩ := D2.tail.tri
      obtain ⟨k6, k7⟩ := D2.tail.tail.pt
      go_wp2_with fail
      refine (sside_ci a0 a1 a2 b0 b1 b2 p0 p1 S _ _ _ D2.tail.tail.tail _ H3.out).mono ?_
      rintro e w4 ⟨rfl, g4⟩
      clear k0 k1 k2 k3 k4 k5 k6 k7
      go_wp2_with fail
      go_ret
      exact ⟨rfl, ((gr.then g2).then g3).then g4⟩
  · skip
    go_enter Try.func77, Try.ntmps77
    go_wp2_with fail
    generalize (((w.alloc (.cells #[.func (.func 44) #[] #[.pointer (some ⟨R, 0, none⟩)], .func (.func 46) #[] #[.pointer (some ⟨S, 0, none⟩)]] 78)).alloc (.cells #[.int .i64 a0, .int .i64 a1, .int .i64 a2] 39)).alloc (.cells #[.int .i64 b0, .int .i64 b1, .int .i64 b2] 39)) = w1 at *
    go_wp2_with fail
    refine (sabove_is a0 a1 a2 p1 R _ _ _ D0.tail.tail.tail.tail h1 h2 h5 _ H1.out).mono ?_
    rintro e w2 ⟨rfl, g2⟩
    clear k0 k1 k2 k3 k4 k5 k6 k7
    go_wp2_with fail
    go_ret
    exact ⟨rfl, gr.then g2⟩
theorem sup_is (a0 a1 a2 b0 b1 b2 p0 p1 : Int) (S R : Nat) (w w0 : World) (bs : List (Nat × List Value)) (hH : Has w0 ((S, [.int .i64 p0, .int .i64 p1, .int .i64 1]) :: (R, [.int .i64 p1, .int .i64 1]) :: bs) w) (h1 : (-9223372036854775808 ≤ a1 ∧ a1 ≤ 9223372036854775807)) (h2 : (-9223372036854775808 ≤ a2 ∧ a2 ≤ 9223372036854775807)) (h3 : (-9223372036854775808 ≤ b1 ∧ b1 ≤ 9223372036854775807)) (h4 : (-9223372036854775808 ≤ b2 ∧ b2 ≤ 9223372036854775807)) (h5 : (-9223372036854775808 ≤ p1 ∧ p1 ≤ 9223372036854775807)) (r : Bool) (h : upS a0 a1 a2 b0 b1 b2 p0 p1 = r) :
    Calls Try.prog 77 #[.agg #[.func (.func 44) #[] #[.pointer (some ⟨R, 0, none⟩)], .func (.func 46) #[] #[.pointer (some ⟨S, 0, none⟩)]], .agg #[.int .i64 a0, .int .i64 a1, .int .i64 a2], .agg #[.int .i64 b0, .int .i64 b1, .int .i64 b2]] w fun e w' => e = .returned (.bool r) ∧ Below w.heap.size w w' := h ▸ sup_any a0 a1 a2 b0 b1 b2 p0 p1 S R w w0 bs hH h1 h2 h3 h4 h5
/-- What RaySpot answers. -/
def rayS (a0 a1 a2 b0 b1 b2 p0 p1 : Int) : Int := if upS a0 a1 a2 b0 b1 b2 p0 p1 = true then 1 else if upS b0 b1 b2 a0 a1 a2 p0 p1 = true then -1 else 0
theorem rayS_1 {a0 a1 a2 b0 b1 b2 p0 p1 : Int} (h : upS a0 a1 a2 b0 b1 b2 p0 p1 = true) : 1 = rayS a0 a1 a2 b0 b1 b2 p0 p1 := by unfold rayS; rw [if_pos h]
theorem rayS_2 {a0 a1 a2 b0 b1 b2 p0 p1 : Int} (h : upS a0 a1 a2 b0 b1 b2 p0 p1 = false) (k : upS b0 b1 b2 a0 a1 a2 p0 p1 = true) : -1 = rayS a0 a1 a2 b0 b1 b2 p0 p1 := by unfold rayS; rw [if_neg (by rw [h]; simp), if_pos k]
theorem rayS_3 {a0 a1 a2 b0 b1 b2 p0 p1 : Int} (h : upS a0 a1 a2 b0 b1 b2 p0 p1 = false) (k : upS b0 b1 b2 a0 a1 a2 p0 p1 = false) : 0 = rayS a0 a1 a2 b0 b1 b2 p0 p1 := by unfold rayS; rw [if_neg (by rw [h]; simp), if_neg (by rw [k]; simp)]

set_option maxHeartbeats 1000000 in
theorem spassed_any (a0 a1 a2 b0 b1 b2 p0 p1 : Int) (S R : Nat) (w w0 : World) (bs : List (Nat × List Value)) (hH : Has w0 ((S, [.int .i64 p0, .int .i64 p1, .int .i64 1]) :: (R, [.int .i64 p1, .int .i64 1]) :: bs) w) (h1 : (-9223372036854775808 ≤ a1 ∧ a1 ≤ 9223372036854775807)) (h2 : (-9223372036854775808 ≤ a2 ∧ a2 ≤ 9223372036854775807)) (h3 : (-9223372036854775808 ≤ b1 ∧ b1 ≤ 9223372036854775807)) (h4 : (-9223372036854775808 ≤ b2 ∧ b2 ≤ 9223372036854775807)) (h5 : (-9223372036854775808 ≤ p1 ∧ p1 ≤ 9223372036854775807)) :
    Calls Try.prog 48 #[.agg #[.func (.func 44) #[] #[.pointer (some ⟨R, 0, none⟩)], .func (.func 46) #[] #[.pointer (some ⟨S, 0, none⟩)]], .agg #[.int .i64 a0, .int .i64 a1, .int .i64 a2], .agg #[.int .i64 b0, .int .i64 b1, .int .i64 b2]] w fun e w' => e = .returned (.int .i64 (rayS a0 a1 a2 b0 b1 b2 p0 p1)) ∧ Below w.heap.size w w' := by
  have D0 := ((hH.push [.func (.func 44) #[] #[.pointer (some ⟨R, 0, none⟩)], .func (.func 46) #[] #[.pointer (some ⟨S, 0, none⟩)]] 78).push [.int .i64 a0, .int .i64 a1, .int .i64 a2] 39).push [.int .i64 b0, .int .i64 b1, .int .i64 b2] 39
  rw [size_alloc, size_alloc] at D0
  change Has w0 ((w.heap.size + 2, [.int .i64 b0, .int .i64 b1, .int .i64 b2]) :: (w.heap.size + 1, [.int .i64 a0, .int .i64 a1, .int .i64 a2]) :: (w.heap.size, [.func (.func 44) #[] #[.pointer (some ⟨R, 0, none⟩)], .func (.func 46) #[] #[.pointer (some ⟨S, 0, none⟩)]]) :: (S, [.int .i64 p0, .int .i64 p1, .int .i64 1]) :: (R, [.int .i64 p1, .int .i64 1]) :: bs) (((w.alloc (.cells #[.func (.func 44) #[] #[.pointer (some ⟨R, 0, none⟩)], .func (.func 46) #[] #[.pointer (some ⟨S, 0, none⟩)]] 78)).alloc (.cells #[.int .i64 a0, .int .i64 a1, .int .i64 a2] 39)).alloc (.cells #[.int .i64 b0, .int .i64 b1, .int .i64 b2] 39)) at D0
  have gr : Grows w (((w.alloc (.cells #[.func (.func 44) #[] #[.pointer (some ⟨R, 0, none⟩)], .func (.func 46) #[] #[.pointer (some ⟨S, 0, none⟩)]] 78)).alloc (.cells #[.int .i64 a0, .int .i64 a1, .int .i64 a2] 39)).alloc (.cells #[.int .i64 b0, .int .i64 b1, .int .i64 b2] 39)) := (((Below.refl _ w).alloc (Nat.le_refl _) _).alloc (by simp) _).alloc (by simp; omega) _
  obtain ⟨k0, k1, k2⟩ := D0.tri
  obtain ⟨k3, k4, k5⟩ := D0.tail.tri
  obtain ⟨k6, k7⟩ := D0.tail.tail.pt
  cases e1 : upS a0 a1 a2 b0 b1 b2 p0 p1
  · cases e2 : upS b0 b1 b2 a0 a1 a2 p0 p1
    · have HV := Lib.hid (rayS_3 e1 e2)
      have H1 := Lib.hid e1
      have H2 := Lib.hid e2
      clear e1 e2
      go_enter Try.func48, Try.ntmps48
      go_wp2_with fail
      generalize (((w.alloc (.cells #[.func (.func 44) #[] #[.pointer (some ⟨R, 0, none⟩)], .func (.func 46) #[] #[.pointer (some ⟨S, 0, none⟩)]] 78)).alloc (.cells #[.int .i64 a0, .int .i64 a1, .int .i64 a2] 39)).alloc (.cells #[.int .i64 b0, .int .i64 b1, .int .i64 b2] 39)) = w1 at *
      go_wp2_with fail
      refine (sup_is a0 a1 a2 b0 b1 b2 p0 p1 S R _ _ _ D0.tail.tail.tail h1 h2 h3 h4 h5 _ H1.out).mono ?_
      rintro e w2 ⟨rfl, g2⟩
      clear k0 k1 k2 k3 k4 k5 k6 k7
      have D1 := D0.later g2
      obtain ⟨k0, k1, k2⟩ := D1.tri
      obtain ⟨k3, k4, k5⟩ := D1.tail.tri
      obtain ⟨k6, k7⟩ := D1.tail.tail.pt
      go_wp2_with fail
      refine (sup_is b0 b1 b2 a0 a1 a2 p0 p1 S R _ _ _ D1.tail.tail.tail h3 h4 h1 h2 h5 _ H2.out).mono ?_
      rintro e w3 ⟨rfl, g3⟩
      clear k0 k1 k2 k3 k4 k5 k6 k7
      go_wp2_with fail
      go_ret
      exact ⟨ret_i HV.out, (gr.then g2).then g3⟩
    · have HV := Lib.hid (rayS_2 e1 e2)
      have H1 := Lib.hid e1
      have H2 := Lib.hid e2
      clear e1 e2
      go_enter Try.func48, Try.ntmps48
      go_wp2_with fail
      generalize (((w.alloc (.cells #[.func (.func 44) #[] #[.pointer (some ⟨R, 0, none⟩)], .func (.func 46) #[] #[.pointer (some ⟨S, 0, none⟩)]] 78)).alloc (.cells #[.int .i64 a0, .int .i64 a1, .int .i64 a2] 39)).alloc (.cells #[.int .i64 b0, .int .i64 b1, .int .i64 b2] 39)) = w1 at *
      go_wp2_with fail
      refine (sup_is a0 a1 a2 b0 b1 b2 p0 p1 S R _ _ _ D0.tail.tail.tail h1 h2 h3 h4 h5 _ H1.out).mono ?_
      rintro e w2 ⟨rfl, g2⟩
      clear k0 k1 k2 k3 k4 k5 k6 k7
      have D1 := D0.later g2
      obtain ⟨k0, k1, k2⟩ := D1.tri
      obtain ⟨k3, k4, k5⟩ := D1.tail.tri
      obtain ⟨k6, k7⟩ := D1.tail.tail.pt
      go_wp2_with fail
      refine (sup_is b0 b1 b2 a0 a1 a2 p0 p1 S R _ _ _ D1.tail.tail.tail h3 h4 h1 h2 h5 _ H2.out).mono ?_
      rintro e w3 ⟨rfl, g3⟩
      clear k0 k1 k2 k3 k4 k5 k6 k7
      go_wp2_with fail
      go_ret
      exact ⟨ret_i HV.out, (gr.then g2).then g3⟩
  · have HV := Lib.hid (rayS_1 e1)
    have H1 := Lib.hid e1
    clear e1
    go_enter Try.func48, Try.ntmps48
    go_wp2_with fail
    generalize (((w.alloc (.cells #[.func (.func 44) #[] #[.pointer (some ⟨R, 0, none⟩)], .func (.func 46) #[] #[.pointer (some ⟨S, 0, none⟩)]] 78)).alloc (.cells #[.int .i64 a0, .int .i64 a1, .int .i64 a2] 39)).alloc (.cells #[.int .i64 b0, .int .i64 b1, .int .i64 b2] 39)) = w1 at *
    go_wp2_with fail
    refine (sup_is a0 a1 a2 b0 b1 b2 p0 p1 S R _ _ _ D0.tail.tail.tail h1 h2 h3 h4 h5 _ H1.out).mono ?_
    rintro e w2 ⟨rfl, g2⟩
    clear k0 k1 k2 k3 k4 k5 k6 k7
    go_wp2_with fail
    go_ret
    exact ⟨ret_i HV.out, gr.then g2⟩

end Go.Proofs.Ytmldgjhecoeldaa

namespace Go.Proofs.Ytmldgjhecoeldaa
open Go.RowKit Go.Lib

set_option maxHeartbeats 1000000 in
theorem rsabove_any (x y d p0 p1 : Int) (w : World) (h1 : (-9223372036854775808 ≤ y ∧ y ≤ 9223372036854775807)) (h2 : (-9223372036854775808 ≤ d ∧ d ≤ 9223372036854775807)) (h3 : (-9223372036854775808 ≤ p1 ∧ p1 ≤ 9223372036854775807)) :
    Calls Try.prog 50 #[.agg #[.int .i64 x, .int .i64 y, .int .i64 d], .agg #[.int .i64 p0, .int .i64 p1]] w fun e w' => e = .returned (.bool (abS y d p1)) ∧ Below w.heap.size w w' := by
  have C0 := ((Has.nil (Below.refl w.heap.size w)).push [.int .i64 x, .int .i64 y, .int .i64 d] 39).push [.int .i64 p0, .int .i64 p1] 24
  rw [size_alloc] at C0
  change Has w _ ((w.alloc (.cells #[.int .i64 x, .int .i64 y, .int .i64 d] 39)).alloc (.cells #[.int .i64 p0, .int .i64 p1] 24)) at C0
  obtain ⟨k0, k1⟩ := C0.pt
  obtain ⟨k2, k3, k4⟩ := C0.tail.tri
  go_enter Try.func50, Try.ntmps50
  go_wp2_with fail
  generalize (w.alloc (.cells #[.int .i64 x, .int .i64 y, .int .i64 d] 39)).alloc (.cells #[.int .i64 p0, .int .i64 p1] 24) = w1 at *
  go_wp2_with fail
  refine (Has.call C0 (rcmp_any y d p1 1 _ h1 h2 h3 (by omega))).mono ?_
  rintro e w2 ⟨rfl, C1⟩
  go_wp2_with fail
  go_ret
  exact ⟨rfl, C1.low⟩
theorem rsabove_is (x y d p0 p1 : Int) (w : World) (h1 : (-9223372036854775808 ≤ y ∧ y ≤ 9223372036854775807)) (h2 : (-9223372036854775808 ≤ d ∧ d ≤ 9223372036854775807)) (h3 : (-9223372036854775808 ≤ p1 ∧ p1 ≤ 9223372036854775807)) (r : Bool) (hr : abS y d p1 = r) :
    Calls Try.prog 50 #[.agg #[.int .i64 x, .int .i64 y, .int .i64 d], .agg #[.int .i64 p0, .int .i64 p1]] w fun e w' => e = .returned (.bool r) ∧ Below w.heap.size w w' := hr ▸ rsabove_any x y d p0 p1 w h1 h2 h3
theorem rspotof_any (p0 p1 : Int) (w : World) : Calls Try.prog 49 #[.agg #[.int .i64 p0, .int .i64 p1]] w fun e w' => e = .returned (.agg #[.int .i64 p0, .int .i64 p1, .int .i64 1]) ∧ Below w.heap.size w w' := by
  have C0 := has1 (w := w) [.int .i64 p0, .int .i64 p1] 24
  obtain ⟨k0, k1⟩ := C0.pt
  clear k0 k1 C0
  go_enter Try.func49, Try.ntmps49
  go_wp2
  go_returns
  exact ⟨rfl, by go_grown⟩
theorem spotof_any (p0 p1 : Int) (w : World) : Calls Try.prog 43 #[.agg #[.int .i64 p0, .int .i64 p1]] w fun e w' => e = .returned (.agg #[.int .i64 p0, .int .i64 p1, .int .i64 1]) ∧ Below w.heap.size w w' := by
  have C0 := has1 (w := w) [.int .i64 p0, .int .i64 p1] 24
  obtain ⟨k0, k1⟩ := C0.pt
  clear k0 k1 C0
  go_enter Try.func43, Try.ntmps43
  go_wp2
  go_returns
  exact ⟨rfl, by go_grown⟩

theorem sideS_low {a0 a1 a2 b0 b1 b2 p0 p1 : Int} (h : a2 < 1 ∨ b2 < 1) : sideS a0 a1 a2 b0 b1 b2 p0 p1 1 = 0 := by
  unfold sideS
  rw [if_neg]
  rintro ⟨g1, g2, -⟩
  rw [sbd_iff] at g1 g2
  unfold SB at g1 g2
  omega
theorem rayS_low {a0 a1 a2 b0 b1 b2 p0 p1 : Int} (h : a2 < 1 ∨ b2 < 1) : 0 = rayS a0 a1 a2 b0 b1 b2 p0 p1 := by
  unfold rayS upS
  rw [sideS_low h, sideS_low (by omega)]
  simp
theorem rayS_up {a0 a1 a2 b0 b1 b2 p0 p1 s : Int} (h : abS a1 a2 p1 = false) (k : abS b1 b2 p1 = true) (l : sideS a0 a1 a2 b0 b1 b2 p0 p1 1 = s) : rayS a0 a1 a2 b0 b1 b2 p0 p1 = if s < 0 then 1 else 0 := by
  unfold rayS upS
  rw [h, k, l]
  simp
theorem rayS_down {a0 a1 a2 b0 b1 b2 p0 p1 s : Int} (h : abS a1 a2 p1 = true) (k : abS b1 b2 p1 = false) (l : sideS b0 b1 b2 a0 a1 a2 p0 p1 1 = s) : rayS a0 a1 a2 b0 b1 b2 p0 p1 = if s < 0 then -1 else 0 := by
  unfold rayS upS
  rw [h, k, l]
  simp
theorem rayS_flat {a0 a1 a2 b0 b1 b2 p0 p1 : Int} (h : abS a1 a2 p1 = abS b1 b2 p1) : 0 = rayS a0 a1 a2 b0 b1 b2 p0 p1 := by
  unfold rayS upS
  rw [h]
  cases abS b1 b2 p1 <;> simp

set_option maxRecDepth 100000 in
set_option maxHeartbeats 4000000 in
theorem rrays_any (a0 a1 a2 b0 b1 b2 p0 p1 : Int) (w : World) (h1 : (-9223372036854775808 ≤ a1 ∧ a1 ≤ 9223372036854775807)) (h2 : (-9223372036854775808 ≤ a2 ∧ a2 ≤ 9223372036854775807)) (h3 : (-9223372036854775808 ≤ b1 ∧ b1 ≤ 9223372036854775807)) (h4 : (-9223372036854775808 ≤ b2 ∧ b2 ≤ 9223372036854775807)) (h5 : (-9223372036854775808 ≤ p1 ∧ p1 ≤ 9223372036854775807)) :
    Calls Try.prog 23 #[.agg #[.int .i64 a0, .int .i64 a1, .int .i64 a2], .agg #[.int .i64 b0, .int .i64 b1, .int .i64 b2], .agg #[.int .i64 p0, .int .i64 p1]] w fun e w' => e = .returned (.int .i64 (rayS a0 a1 a2 b0 b1 b2 p0 p1)) ∧ Below w.heap.size w w' := by
  have C0 := (((Has.nil (Below.refl w.heap.size w)).push [.int .i64 a0, .int .i64 a1, .int .i64 a2] 39).push [.int .i64 b0, .int .i64 b1, .int .i64 b2] 39).push [.int .i64 p0, .int .i64 p1] 24
  rw [size_alloc, size_alloc] at C0
  change Has w [(w.heap.size + 2, [.int .i64 p0, .int .i64 p1]), (w.heap.size + 1, [.int .i64 b0, .int .i64 b1, .int .i64 b2]), (w.heap.size, [.int .i64 a0, .int .i64 a1, .int .i64 a2])] (((w.alloc (.cells #[.int .i64 a0, .int .i64 a1, .int .i64 a2] 39)).alloc (.cells #[.int .i64 b0, .int .i64 b1, .int .i64 b2] 39)).alloc (.cells #[.int .i64 p0, .int .i64 p1] 24)) at C0
  replace C0 := C0.third.perm (.cons _ (.swap _ _ _))
  by_cases c1 : a2 < 1
  · have HV := Lib.hid (rayS_low (a0 := a0) (a1 := a1) (b0 := b0) (b1 := b1) (b2 := b2) (p0 := p0) (p1 := p1) (.inl c1))
    obtain ⟨k0, k1, k2⟩ := C0.tri
    obtain ⟨k3, k4, k5⟩ := C0.tail.tri
    obtain ⟨k6, k7⟩ := C0.tail.tail.pt
    go_enter Try.func23, Try.ntmps23
    go_wp2_with fail
    try generalize (((w.alloc (.cells #[.int .i64 a0, .int .i64 a1, .int .i64 a2] 39)).alloc (.cells #[.int .i64 b0, .int .i64 b1, .int .i64 b2] 39)).alloc (.cells #[.int .i64 p0, .int .i64 p1] 24)) = w1 at *
    go_ret
    exact ⟨ret_i HV.out, C0.low⟩
  by_cases c2 : b2 < 1
  · have HV := Lib.hid (rayS_low (a0 := a0) (a1 := a1) (a2 := a2) (b0 := b0) (b1 := b1) (p0 := p0) (p1 := p1) (.inr c2))
    obtain ⟨k0, k1, k2⟩ := C0.tri
    obtain ⟨k3, k4, k5⟩ := C0.tail.tri
    obtain ⟨k6, k7⟩ := C0.tail.tail.pt
    go_enter Try.func23, Try.ntmps23
    go_wp2_with fail
    try generalize (((w.alloc (.cells #[.int .i64 a0, .int .i64 a1, .int .i64 a2] 39)).alloc (.cells #[.int .i64 b0, .int .i64 b1, .int .i64 b2] 39)).alloc (.cells #[.int .i64 p0, .int .i64 p1] 24)) = w1 at *
    go_ret
    exact ⟨ret_i HV.out, C0.low⟩
  obtain ⟨r1, e1⟩ : ∃ r, abS a1 a2 p1 = r := ⟨_, rfl⟩
  obtain ⟨r2, e2⟩ : ∃ r, abS b1 b2 p1 = r := ⟨_, rfl⟩
  cases r1
  · cases r2
    · skip
      have HV := Lib.hid (rayS_flat (a0 := a0) (b0 := b0) (p0 := p0) (e1.trans e2.symm))
      have H1 := Lib.hid e1
      have H2 := Lib.hid e2
      clear e1 e2
      obtain ⟨k0, k1, k2⟩ := C0.tri
      obtain ⟨k3, k4, k5⟩ := C0.tail.tri
      obtain ⟨k6, k7⟩ := C0.tail.tail.pt
      go_enter Try.func23, Try.ntmps23
      go_wp2_with fail
      try generalize (((w.alloc (.cells #[.int .i64 a0, .int .i64 a1, .int .i64 a2] 39)).alloc (.cells #[.int .i64 b0, .int .i64 b1, .int .i64 b2] 39)).alloc (.cells #[.int .i64 p0, .int .i64 p1] 24)) = w1 at *
      refine (Has.call C0 (rspotof_any p0 p1 _)).mono ?_
      rintro e w2 ⟨rfl, C1⟩
      clear k0 k1 k2 k3 k4 k5 k6 k7
      have C2 := C1.push [.int .i64 p0, .int .i64 p1, .int .i64 1] 39
      change Has w _ (w2.alloc (.cells #[.int .i64 p0, .int .i64 p1, .int .i64 1] 39)) at C2
      obtain ⟨k8, k9, k10⟩ := C2.tri
      have C2t := C2.tail
      obtain ⟨k0, k1, k2⟩ := C2t.tri
      obtain ⟨k3, k4, k5⟩ := C2t.tail.tri
      obtain ⟨k6, k7⟩ := C2t.tail.tail.pt
      go_wp2_with fail
      generalize w2.alloc (.cells #[.int .i64 p0, .int .i64 p1, .int .i64 1] 39) = w3 at *
      generalize w2.heap.size = T at *
      refine (Has.call C2 (rsabove_is a0 a1 a2 p0 p1 _ h1 h2 h5 _ H1.out)).mono ?_
      rintro e w4 ⟨rfl, C3⟩
      clear C2t
      clear k0 k1 k2 k3 k4 k5 k6 k7 k8 k9 k10
      obtain ⟨k8, k9, k10⟩ := C3.tri
      have C3t := C3.tail
      obtain ⟨k0, k1, k2⟩ := C3t.tri
      obtain ⟨k3, k4, k5⟩ := C3t.tail.tri
      obtain ⟨k6, k7⟩ := C3t.tail.tail.pt
      go_wp2_with fail
      refine (Has.call C3 (rsabove_is b0 b1 b2 p0 p1 _ h3 h4 h5 _ H2.out)).mono ?_
      rintro e w5 ⟨rfl, C4⟩
      clear C3t
      clear k0 k1 k2 k3 k4 k5 k6 k7 k8 k9 k10
      obtain ⟨k8, k9, k10⟩ := C4.tri
      have C4t := C4.tail
      obtain ⟨k0, k1, k2⟩ := C4t.tri
      obtain ⟨k3, k4, k5⟩ := C4t.tail.tri
      obtain ⟨k6, k7⟩ := C4t.tail.tail.pt
      go_wp2_with fail
      go_ret
      exact ⟨ret_i HV.out, C4.low⟩
    · skip
      obtain ⟨s, e3⟩ : ∃ s, sideS a0 a1 a2 b0 b1 b2 p0 p1 1 = s := ⟨_, rfl⟩
      by_cases c3 : s < 0
      · have HV := Lib.hid (rayS_up e1 e2 e3)
        have HU := Lib.hid (HV.out.trans (if_pos c3))
        have H3 := Lib.hid e3
        clear e3 HV
        have H1 := Lib.hid e1
        have H2 := Lib.hid e2
        clear e1 e2
        obtain ⟨k0, k1, k2⟩ := C0.tri
        obtain ⟨k3, k4, k5⟩ := C0.tail.tri
        obtain ⟨k6, k7⟩ := C0.tail.tail.pt
        go_enter Try.func23, Try.ntmps23
        go_wp2_with fail
        try generalize (((w.alloc (.cells #[.int .i64 a0, .int .i64 a1, .int .i64 a2] 39)).alloc (.cells #[.int .i64 b0, .int .i64 b1, .int .i64 b2] 39)).alloc (.cells #[.int .i64 p0, .int .i64 p1] 24)) = w1 at *
        refine (Has.call C0 (rspotof_any p0 p1 _)).mono ?_
        rintro e w2 ⟨rfl, C1⟩
        clear k0 k1 k2 k3 k4 k5 k6 k7
        have C2 := C1.push [.int .i64 p0, .int .i64 p1, .int .i64 1] 39
        change Has w _ (w2.alloc (.cells #[.int .i64 p0, .int .i64 p1, .int .i64 1] 39)) at C2
        obtain ⟨k8, k9, k10⟩ := C2.tri
        have C2t := C2.tail
        obtain ⟨k0, k1, k2⟩ := C2t.tri
        obtain ⟨k3, k4, k5⟩ := C2t.tail.tri
        obtain ⟨k6, k7⟩ := C2t.tail.tail.pt
        go_wp2_with fail
        generalize w2.alloc (.cells #[.int .i64 p0, .int .i64 p1, .int .i64 1] 39) = w3 at *
        generalize w2.heap.size = T at *
        refine (Has.call C2 (rsabove_is a0 a1 a2 p0 p1 _ h1 h2 h5 _ H1.out)).mono ?_
        rintro e w4 ⟨rfl, C3⟩
        clear C2t
        clear k0 k1 k2 k3 k4 k5 k6 k7 k8 k9 k10
        obtain ⟨k8, k9, k10⟩ := C3.tri
        have C3t := C3.tail
        obtain ⟨k0, k1, k2⟩ := C3t.tri
        obtain ⟨k3, k4, k5⟩ := C3t.tail.tri
        obtain ⟨k6, k7⟩ := C3t.tail.tail.pt
        go_wp2_with fail
        refine (Has.call C3 (rsabove_is b0 b1 b2 p0 p1 _ h3 h4 h5 _ H2.out)).mono ?_
        rintro e w5 ⟨rfl, C4⟩
        clear C3t
        clear k0 k1 k2 k3 k4 k5 k6 k7 k8 k9 k10
        obtain ⟨k8, k9, k10⟩ := C4.tri
        have C4t := C4.tail
        obtain ⟨k0, k1, k2⟩ := C4t.tri
        obtain ⟨k3, k4, k5⟩ := C4t.tail.tri
        obtain ⟨k6, k7⟩ := C4t.tail.tail.pt
        go_wp2_with fail
        refine (Has.call C4 (rspotSide_is a0 a1 a2 b0 b1 b2 p0 p1 1 s H3.out _)).mono ?_
        rintro e w6 ⟨rfl, C5⟩
        clear C4t
        clear k0 k1 k2 k3 k4 k5 k6 k7 k8 k9 k10
        obtain ⟨k8, k9, k10⟩ := C5.tri
        have C5t := C5.tail
        obtain ⟨k0, k1, k2⟩ := C5t.tri
        obtain ⟨k3, k4, k5⟩ := C5t.tail.tri
        obtain ⟨k6, k7⟩ := C5t.tail.tail.pt
        go_wp2_with fail
        go_ret
        exact ⟨ret_i HU.out.symm, C5.low⟩
      · have HV := Lib.hid (rayS_up e1 e2 e3)
        have HU := Lib.hid (HV.out.trans (if_neg c3))
        have H3 := Lib.hid e3
        clear e3 HV
        have H1 := Lib.hid e1
        have H2 := Lib.hid e2
        clear e1 e2
        obtain ⟨k0, k1, k2⟩ := C0.tri
        obtain ⟨k3, k4, k5⟩ := C0.tail.tri
        obtain ⟨k6, k7⟩ := C0.tail.tail.pt
        go_enter Try.func23, Try.ntmps23
        go_wp2_with fail
        try generalize (((w.alloc (.cells #[.int .i64 a0, .int .i64 a1, .int .i64 a2] 39)).alloc (.cells #[.int .i64 b0, .int .i64 b1, .int .i64 b2] 39)).alloc (.cells #[.int .i64 p0, .int .i64 p1] 24)) = w1 at *
        refine (Has.call C0 (rspotof_any p0 p1 _)).mono ?_
        rintro e w2 ⟨rfl, C1⟩
        clear k0 k1 k2 k3 k4 k5 k6 k7
        have C2 := C1.push [.int .i64 p0, .int .i64 p1, .int .i64 1] 39
        change Has w _ (w2.alloc (.cells #[.int .i64 p0, .int .i64 p1, .int .i64 1] 39)) at C2
        obtain ⟨k8, k9, k10⟩ := C2.tri
        have C2t := C2.tail
        obtain ⟨k0, k1, k2⟩ := C2t.tri
        obtain ⟨k3, k4, k5⟩ := C2t.tail.tri
        obtain ⟨k6, k7⟩ := C2t.tail.tail.pt
        go_wp2_with fail
        generalize w2.alloc (.cells #[.int .i64 p0, .int .i64 p1, .int .i64 1] 39) = w3 at *
        generalize w2.heap.size = T at *
        refine (Has.call C2 (rsabove_is a0 a1 a2 p0 p1 _ h1 h2 h5 _ H1.out)).mono ?_
        rintro e w4 ⟨rfl, C3⟩
        clear C2t
        clear k0 k1 k2 k3 k4 k5 k6 k7 k8 k9 k10
        obtain ⟨k8, k9, k10⟩ := C3.tri
        have C3t := C3.tail
        obtain ⟨k0, k1, k2⟩ := C3t.tri
        obtain ⟨k3, k4, k5⟩ := C3t.tail.tri
        obtain ⟨k6, k7⟩ := C3t.tail.tail.pt
        go_wp2_with fail
        refine (Has.call C3 (rsabove_is b0 b1 b2 p0 p1 _ h3 h4 h5 _ H2.out)).mono ?_
        rintro e w5 ⟨rfl, C4⟩
        clear C3t
        clear k0 k1 k2 k3 k4 k5 k6 k7 k8 k9 k10
        obtain ⟨k8, k9, k10⟩ := C4.tri
        have C4t := C4.tail
        obtain ⟨k0, k1, k2⟩ := C4t.tri
        obtain ⟨k3, k4, k5⟩ := C4t.tail.tri
        obtain ⟨k6, k7⟩ := C4t.tail.tail.pt
        go_wp2_with fail
        refine (Has.call C4 (rspotSide_is a0 a1 a2 b0 b1 b2 p0 p1 1 s H3.out _)).mono ?_
        rintro e w6 ⟨rfl, C5⟩
        clear C4t
        clear k0 k1 k2 k3 k4 k5 k6 k7 k8 k9 k10
        obtain ⟨k8, k9, k10⟩ := C5.tri
        have C5t := C5.tail
        obtain ⟨k0, k1, k2⟩ := C5t.tri
        obtain ⟨k3, k4, k5⟩ := C5t.tail.tri
        obtain ⟨k6, k7⟩ := C5t.tail.tail.pt
        go_wp2_with fail
        go_ret
        exact ⟨ret_i HU.out.symm, C5.low⟩
  · cases r2
    · skip
      obtain ⟨s, e3⟩ : ∃ s, sideS b0 b1 b2 a0 a1 a2 p0 p1 1 = s := ⟨_, rfl⟩
      by_cases c3 : s < 0
      · have HV := Lib.hid (rayS_down e1 e2 e3)
        have HU := Lib.hid (HV.out.trans (if_pos c3))
        have H3 := Lib.hid e3
        clear e3 HV
        have H1 := Lib.hid e1
        have H2 := Lib.hid e2
        clear e1 e2
        obtain ⟨k0, k1, k2⟩ := C0.tri
        obtain ⟨k3, k4, k5⟩ := C0.tail.tri
        obtain ⟨k6, k7⟩ := C0.tail.tail.pt
        go_enter Try.func23, Try.ntmps23
        go_wp2_with fail
        try generalize (((w.alloc (.cells #[.int .i64 a0, .int .i64 a1, .int .i64 a2] 39)).alloc (.cells #[.int .i64 b0, .int .i64 b1, .int .i64 b2] 39)).alloc (.cells #[.int .i64 p0, .int .i64 p1] 24)) = w1 at *
        refine (Has.call C0 (rspotof_any p0 p1 _)).mono ?_
        rintro e w2 ⟨rfl, C1⟩
        clear k0 k1 k2 k3 k4 k5 k6 k7
        have C2 := C1.push [.int .i64 p0, .int .i64 p1, .int .i64 1] 39
        change Has w _ (w2.alloc (.cells #[.int .i64 p0, .int .i64 p1, .int .i64 1] 39)) at C2
        obtain ⟨k8, k9, k10⟩ := C2.tri
        have C2t := C2.tail
        obtain ⟨k0, k1, k2⟩ := C2t.tri
        obtain ⟨k3, k4, k5⟩ := C2t.tail.tri
        obtain ⟨k6, k7⟩ := C2t.tail.tail.pt
        go_wp2_with fail
        generalize w2.alloc (.cells #[.int .i64 p0, .int .i64 p1, .int .i64 1] 39) = w3 at *
        generalize w2.heap.size = T at *
        refine (Has.call C2 (rsabove_is a0 a1 a2 p0 p1 _ h1 h2 h5 _ H1.out)).mono ?_
        rintro e w4 ⟨rfl, C3⟩
        clear C2t
        clear k0 k1 k2 k3 k4 k5 k6 k7 k8 k9 k10
        obtain ⟨k8, k9, k10⟩ := C3.tri
        have C3t := C3.tail
        obtain ⟨k0, k1, k2⟩ := C3t.tri
        obtain ⟨k3, k4, k5⟩ := C3t.tail.tri
        obtain ⟨k6, k7⟩ := C3t.tail.tail.pt
        go_wp2_with fail
        refine (Has.call C3 (rsabove_is b0 b1 b2 p0 p1 _ h3 h4 h5 _ H2.out)).mono ?_
        rintro e w5 ⟨rfl, C4⟩
        clear C3t
        clear k0 k1 k2 k3 k4 k5 k6 k7 k8 k9 k10
        obtain ⟨k8, k9, k10⟩ := C4.tri
        have C4t := C4.tail
        obtain ⟨k0, k1, k2⟩ := C4t.tri
        obtain ⟨k3, k4, k5⟩ := C4t.tail.tri
        obtain ⟨k6, k7⟩ := C4t.tail.tail.pt
        go_wp2_with fail
        refine (Has.call C4 (rspotSide_is b0 b1 b2 a0 a1 a2 p0 p1 1 s H3.out _)).mono ?_
        rintro e w6 ⟨rfl, C5⟩
        clear C4t
        clear k0 k1 k2 k3 k4 k5 k6 k7 k8 k9 k10
        obtain ⟨k8, k9, k10⟩ := C5.tri
        have C5t := C5.tail
        obtain ⟨k0, k1, k2⟩ := C5t.tri
        obtain ⟨k3, k4, k5⟩ := C5t.tail.tri
        obtain ⟨k6, k7⟩ := C5t.tail.tail.pt
        go_wp2_with fail
        go_ret
        exact ⟨ret_i HU.out.symm, C5.low⟩
      · have HV := Lib.hid (rayS_down e1 e2 e3)
        have HU := Lib.hid (HV.out.trans (if_neg c3))
        have H3 := Lib.hid e3
        clear e3 HV
        have H1 := Lib.hid e1
        have H2 := Lib.hid e2
        clear e1 e2
        obtain ⟨k0, k1, k2⟩ := C0.tri
        obtain ⟨k3, k4, k5⟩ := C0.tail.tri
        obtain ⟨k6, k7⟩ := C0.tail.tail.pt
        go_enter Try.func23, Try.ntmps23
        go_wp2_with fail
        try generalize (((w.alloc (.cells #[.int .i64 a0, .int .i64 a1, .int .i64 a2] 39)).alloc (.cells #[.int .i64 b0, .int .i64 b1, .int .i64 b2] 39)).alloc (.cells #[.int .i64 p0, .int .i64 p1] 24)) = w1 at *
        refine (Has.call C0 (rspotof_any p0 p1 _)).mono ?_
        rintro e w2 ⟨rfl, C1⟩
        clear k0 k1 k2 k3 k4 k5 k6 k7
        have C2 := C1.push [.int .i64 p0, .int .i64 p1, .int .i64 1] 39
        change Has w _ (w2.alloc (.cells #[.int .i64 p0, .int .i64 p1, .int .i64 1] 39)) at C2
        obtain ⟨k8, k9, k10⟩ := C2.tri
        have C2t := C2.tail
        obtain ⟨k0, k1, k2⟩ := C2t.tri
        obtain ⟨k3, k4, k5⟩ := C2t.tail.tri
        obtain ⟨k6, k7⟩ := C2t.tail.tail.pt
        go_wp2_with fail
        generalize w2.alloc (.cells #[.int .i64 p0, .int .i64 p1, .int .i64 1] 39) = w3 at *
        generalize w2.heap.size = T at *
        refine (Has.call C2 (rsabove_is a0 a1 a2 p0 p1 _ h1 h2 h5 _ H1.out)).mono ?_
        rintro e w4 ⟨rfl, C3⟩
        clear C2t
        clear k0 k1 k2 k3 k4 k5 k6 k7 k8 k9 k10
        obtain ⟨k8, k9, k10⟩ := C3.tri
        have C3t := C3.tail
        obtain ⟨k0, k1, k2⟩ := C3t.tri
        obtain ⟨k3, k4, k5⟩ := C3t.tail.tri
        obtain ⟨k6, k7⟩ := C3t.tail.tail.pt
        go_wp2_with fail
        refine (Has.call C3 (rsabove_is b0 b1 b2 p0 p1 _ h3 h4 h5 _ H2.out)).mono ?_
        rintro e w5 ⟨rfl, C4⟩
        clear C3t
        clear k0 k1 k2 k3 k4 k5 k6 k7 k8 k9 k10
        obtain ⟨k8, k9, k10⟩ := C4.tri
        have C4t := C4.tail
        obtain ⟨k0, k1, k2⟩ := C4t.tri
        obtain ⟨k3, k4, k5⟩ := C4t.tail.tri
        obtain ⟨k6, k7⟩ := C4t.tail.tail.pt
        go_wp2_with fail
        refine (Has.call C4 (rspotSide_is b0 b1 b2 a0 a1 a2 p0 p1 1 s H3.out _)).mono ?_
        rintro e w6 ⟨rfl, C5⟩
        clear C4t
        clear k0 k1 k2 k3 k4 k5 k6 k7 k8 k9 k10
        obtain ⟨k8, k9, k10⟩ := C5.tri
        have C5t := C5.tail
        obtain ⟨k0, k1, k2⟩ := C5t.tri
        obtain ⟨k3, k4, k5⟩ := C5t.tail.tri
        obtain ⟨k6, k7⟩ := C5t.tail.tail.pt
        go_wp2_with fail
        go_ret
        exact ⟨ret_i HU.out.symm, C5.low⟩
    · skip
      have HV := Lib.hid (rayS_flat (a0 := a0) (b0 := b0) (p0 := p0) (e1.trans e2.symm))
      have H1 := Lib.hid e1
      have H2 := Lib.hid e2
      clear e1 e2
      obtain ⟨k0, k1, k2⟩ := C0.tri
      obtain ⟨k3, k4, k5⟩ := C0.tail.tri
      obtain ⟨k6, k7⟩ := C0.tail.tail.pt
      go_enter Try.func23, Try.ntmps23
      go_wp2_with fail
      try generalize (((w.alloc (.cells #[.int .i64 a0, .int .i64 a1, .int .i64 a2] 39)).alloc (.cells #[.int .i64 b0, .int .i64 b1, .int .i64 b2] 39)).alloc (.cells #[.int .i64 p0, .int .i64 p1] 24)) = w1 at *
      refine (Has.call C0 (rspotof_any p0 p1 _)).mono ?_
      rintro e w2 ⟨rfl, C1⟩
      clear k0 k1 k2 k3 k4 k5 k6 k7
      have C2 := C1.push [.int .i64 p0, .int .i64 p1, .int .i64 1] 39
      change Has w _ (w2.alloc (.cells #[.int .i64 p0, .int .i64 p1, .int .i64 1] 39)) at C2
      obtain ⟨k8, k9, k10⟩ := C2.tri
      have C2t := C2.tail
      obtain ⟨k0, k1, k2⟩ := C2t.tri
      obtain ⟨k3, k4, k5⟩ := C2t.tail.tri
      obtain ⟨k6, k7⟩ := C2t.tail.tail.pt
      go_wp2_with fail
      generalize w2.alloc (.cells #[.int .i64 p0, .int .i64 p1, .int .i64 1] 39) = w3 at *
      generalize w2.heap.size = T at *
      refine (Has.call C2 (rsabove_is a0 a1 a2 p0 p1 _ h1 h2 h5 _ H1.out)).mono ?_
      rintro e w4 ⟨rfl, C3⟩
      clear C2t
      clear k0 k1 k2 k3 k4 k5 k6 k7 k8 k9 k10
      obtain ⟨k8, k9, k10⟩ := C3.tri
      have C3t := C3.tail
      obtain ⟨k0, k1, k2⟩ := C3t.tri
      obtain ⟨k3, k4, k5⟩ := C3t.tail.tri
      obtain ⟨k6, k7⟩ := C3t.tail.tail.pt
      go_wp2_with fail
      refine (Has.call C3 (rsabove_is b0 b1 b2 p0 p1 _ h3 h4 h5 _ H2.out)).mono ?_
      rintro e w5 ⟨rfl, C4⟩
      clear C3t
      clear k0 k1 k2 k3 k4 k5 k6 k7 k8 k9 k10
      obtain ⟨k8, k9, k10⟩ := C4.tri
      have C4t := C4.tail
      obtain ⟨k0, k1, k2⟩ := C4t.tri
      obtain ⟨k3, k4, k5⟩ := C4t.tail.tri
      obtain ⟨k6, k7⟩ := C4t.tail.tail.pt
      go_wp2_with fail
      go_ret
      exact ⟨ret_i HV.out, C4.low⟩
theorem rrays_is (a0 a1 a2 b0 b1 b2 p0 p1 s : Int) (h : rayS a0 a1 a2 b0 b1 b2 p0 p1 = s) (w : World) (h1 : (-9223372036854775808 ≤ a1 ∧ a1 ≤ 9223372036854775807)) (h2 : (-9223372036854775808 ≤ a2 ∧ a2 ≤ 9223372036854775807)) (h3 : (-9223372036854775808 ≤ b1 ∧ b1 ≤ 9223372036854775807)) (h4 : (-9223372036854775808 ≤ b2 ∧ b2 ≤ 9223372036854775807)) (h5 : (-9223372036854775808 ≤ p1 ∧ p1 ≤ 9223372036854775807)) :
    Calls Try.prog 23 #[.agg #[.int .i64 a0, .int .i64 a1, .int .i64 a2], .agg #[.int .i64 b0, .int .i64 b1, .int .i64 b2], .agg #[.int .i64 p0, .int .i64 p1]] w fun e w' => e = .returned (.int .i64 s) ∧ Below w.heap.size w w' := h ▸ rrays_any a0 a1 a2 b0 b1 b2 p0 p1 w h1 h2 h3 h4 h5

end Go.Proofs.Ytmldgjhecoeldaa

namespace Go.Proofs.Ytmldgjhecoeldaa
open Go.RowKit Go.Lib

set_option linter.unusedSimpArgs false in
set_option linter.unusedVariables false in
set_option maxRecDepth 100000 in
set_option maxHeartbeats 8000000 in
theorem rayspot_any (a0 a1 a2 b0 b1 b2 p0 p1 : Int) (w : World) (h1 : (-9223372036854775808 ≤ a1 ∧ a1 ≤ 9223372036854775807)) (h2 : (-9223372036854775808 ≤ a2 ∧ a2 ≤ 9223372036854775807)) (h3 : (-9223372036854775808 ≤ b1 ∧ b1 ≤ 9223372036854775807)) (h4 : (-9223372036854775808 ≤ b2 ∧ b2 ≤ 9223372036854775807)) (h5 : (-9223372036854775808 ≤ p1 ∧ p1 ≤ 9223372036854775807)) :
    Calls Try.prog 22 #[.agg #[.int .i64 a0, .int .i64 a1, .int .i64 a2], .agg #[.int .i64 b0, .int .i64 b1, .int .i64 b2], .agg #[.int .i64 p0, .int .i64 p1]] w fun e w' => e = .returned (.int .i64 (rayS a0 a1 a2 b0 b1 b2 p0 p1)) ∧ Below w.heap.size w w' := by
  have C0 := (((Has.nil (Below.refl w.heap.size w)).push [.int .i64 a0, .int .i64 a1, .int .i64 a2] 39).push [.int .i64 b0, .int .i64 b1, .int .i64 b2] 39).push [.int .i64 p0, .int .i64 p1] 24
  rw [size_alloc, size_alloc] at C0
  change Has w [(w.heap.size + 2, [.int .i64 p0, .int .i64 p1]), (w.heap.size + 1, [.int .i64 b0, .int .i64 b1, .int .i64 b2]), (w.heap.size, [.int .i64 a0, .int .i64 a1, .int .i64 a2])] (((w.alloc (.cells #[.int .i64 a0, .int .i64 a1, .int .i64 a2] 39)).alloc (.cells #[.int .i64 b0, .int .i64 b1, .int .i64 b2] 39)).alloc (.cells #[.int .i64 p0, .int .i64 p1] 24)) at C0
  go_enter Try.func22, Try.ntmps22
  go_upto_region 1 with fail
  generalize ((w.alloc (.cells #[.int .i64 a0, .int .i64 a1, .int .i64 a2] 39)).alloc (.cells #[.int .i64 b0, .int .i64 b1, .int .i64 b2] 39)).alloc (.cells #[.int .i64 p0, .int .i64 p1] 24) = w0 at *
  have X0 := C0.drew
  have ms1 := Lib.hid (show ∀ w', Has w [(w.heap.size + 2, [.int .i64 p0, .int .i64 p1]), (w.heap.size + 1, [.int .i64 b0, .int .i64 b1, .int .i64 b2]), (w.heap.size, [.int .i64 a0, .int .i64 a1, .int .i64 a2])] w' → (w'.cell? ⟨w.heap.size + 2, 0, none⟩ = some (.int .i64 p0) ∧ w'.cell? ⟨w.heap.size + 2, 1, none⟩ = some (.int .i64 p1)) ∧ Has w [(w.heap.size + 2, [.int .i64 p0, .int .i64 p1]), (w.heap.size + 1, [.int .i64 b0, .int .i64 b1, .int .i64 b2]), (w.heap.size, [.int .i64 a0, .int .i64 a1, .int .i64 a2])] w' from fun w' h => ⟨⟨h.fact (.head _) (i := 0) rfl, h.fact (.head _) (i := 1) rfl⟩, h⟩)
  refine wp_region_held_drew (S := (fun w' => (w'.cell? ⟨w.heap.size + 2, 0, none⟩ = some (.int .i64 p0) ∧ w'.cell? ⟨w.heap.size + 2, 1, none⟩ = some (.int .i64 p1)) ∧ Has w [(w.heap.size + 2, [.int .i64 p0, .int .i64 p1]), (w.heap.size + 1, [.int .i64 b0, .int .i64 b1, .int .i64 b2]), (w.heap.size, [.int .i64 a0, .int .i64 a1, .int .i64 a2])] w')) (by kernel_rfl) (ms1.out _ X0) (fun hHeld => ?_)
  refine wpAnyT_begin [0, 2, 3, 4] (by kernel_rfl) (by kernel_rfl) ?_
  refine wpAnyT_take (oi := ⟨some 9, Op.load 24 (Operand.tmp 5), 24, _, _, none⟩) (v := .agg #[.int .i64 p0, .int .i64 p1]) rfl (fun _ _ _ h => h) (by rfl) (by assumption) (fun wS hSw => ?_) ?_
  · (try dsimp only at hSw); go_simp
  simp only [Act.put, List.setIfInBounds_toArray, List.set_cons_zero, List.set_cons_succ]
  refine wpAnyT_take (oi := ⟨some 11, Op.fieldAddr 24 (Operand.tmp 5) 1, 0, _, _, none⟩) (v := .pointer (some ⟨w.heap.size + 2, 1, none⟩)) rfl (fun _ _ _ h => h) (by rfl) (by assumption) (fun wS hSw => ?_) ?_
  · (try dsimp only at hSw); go_simp
  simp only [Act.put, List.setIfInBounds_toArray, List.set_cons_zero, List.set_cons_succ]
  refine wpAnyT_take (oi := ⟨some 12, Op.load 3 (Operand.tmp 11), 3, _, _, none⟩) (v := .int .i64 p1) rfl (fun _ _ _ h => h) (by rfl) (by assumption) (fun wS hSw => ?_) ?_
  · (try dsimp only at hSw); go_simp
  simp only [Act.put, List.setIfInBounds_toArray, List.set_cons_zero, List.set_cons_succ]
  refine wpAnyT_take (oi := ⟨some 13, Op.build 72 #[(0, Operand.tmp 12), (1, Operand.const (Value.int IntKind.i64 1))], 72, _, _, none⟩) (v := .agg #[.int .i64 p1, .int .i64 1]) rfl (fun _ _ _ h => h) (by rfl) (by assumption) (fun wS hSw => ?_) ?_
  · (try dsimp only at hSw); go_simp
  simp only [Act.put, List.setIfInBounds_toArray, List.set_cons_zero, List.set_cons_succ]
  refine wpAnyT_end ?_
  refine wpAnyH_listed #[true, false, true, true, true, false, false, false, false] (by kernel_rfl) ?_
  refine any_ind (X := Sta) (n := fun sx => (1 - sx.n) + (if sx.a.isSome then 0 else 1) + (if sx.b.isSome then 0 else 1)) (l := fun sx => #[true, decide (1 ≤ sx.n), true, true, true, sx.a.isSome, sx.b.isSome, false, false]) (u := fun sx t => (putc 10 (.agg #[.int .i64 p0, .int .i64 p1, .int .i64 1]) (decide (1 ≤ sx.n)) (putp 7 sx.a (putp 8 sx.b t)))) (I := fun sx w' => sx.n ≤ 1 ∧ Has w (bl [.int .i64 0, .int .i64 0, .int .i64 0] sx.a (bl [.int .i64 0, .int .i64 0] sx.b [(w.heap.size + 2, [.int .i64 p0, .int .i64 p1]), (w.heap.size + 1, [.int .i64 b0, .int .i64 b1, .int .i64 b2]), (w.heap.size, [.int .i64 a0, .int .i64 a1, .int .i64 a2])])) w') (m := 2) ⟨none, none, none, 0⟩ (by kernel_rfl) (by kernel_rfl) (by kernel_rfl) ⟨Nat.zero_le _, X0⟩ ?_ ?_
  · rintro k ih ⟨pa, pb, pc, c⟩ w2 hk ⟨hc, hH⟩
    clear hHeld
    obtain rfl | rfl : c = 0 ∨ c = 1 := by simp only at hc; omega
    · cases pa with
      | none =>
        cases pb with
        | none =>
          simp only [Option.isSome, Bool.false_eq_true, if_false, if_true] at hk
          simp only [putc, putp, Act.put, decide_eq_true_eq, decide_true, decide_false, Nat.le_refl, Nat.reduceLeDiff, List.setIfInBounds_toArray, List.set_cons_zero, List.set_cons_succ]
          refine wpAnyH_listed #[true, false, true, true, true, false, false, false, false] (by kernel_rfl) ?_
          refine wpAnyH_ready (rs := [1, 5, 6]) (by kernel_rfl) (by simp) ?_
          refine AllReadyH.cons (o := ⟨some 10, Op.call { callee := Callee.value (Operand.func 43), args := #[Operand.tmp 9], argTypes := #[24] }, 39, _, _, none⟩) rfl (fun K hK => ?_) (?_)
          · go_simp
            go_at_call 43
            refine (Has.call hH (spotof_any p0 p1 _)).mono ?_
            rintro e W ⟨rfl, hC⟩
            go_wp2_with fail
            refine hK.out _ _ (ms1.out _ hC) (fun _ => ?_)
            exact wpAnyH_cast rfl (by kernel_rfl) (by kernel_rfl) (ih ⟨none, none, pc, 1⟩ _ (by simp only [Option.isSome, Bool.false_eq_true, if_false, if_true]; omega) ⟨by simp, hC⟩)
          refine AllReadyH.cons (o := ⟨some 7, Op.alloc 39, 0, _, _, none⟩) rfl (fun K hK => ?_) (?_)
          · go_simp
            have hC := (hH.push [.int .i64 0, .int .i64 0, .int .i64 0] 39)
            change Has w _ (w2.alloc (.cells #[.int .i64 0, .int .i64 0, .int .i64 0] 39)) at hC
            generalize w2.alloc (.cells #[.int .i64 0, .int .i64 0, .int .i64 0] 39) = W at *
            generalize w2.heap.size = P at *
            have hC' : Has w ([(P, [.int .i64 0, .int .i64 0, .int .i64 0])] ++ [(w.heap.size + 2, [.int .i64 p0, .int .i64 p1]), (w.heap.size + 1, [.int .i64 b0, .int .i64 b1, .int .i64 b2]), (w.heap.size, [.int .i64 a0, .int .i64 a1, .int .i64 a2])]) W := hC
            refine hK.out _ _ (ms1.out _ (hC.tail)) (fun _ => ?_)
            exact wpAnyH_cast rfl (by kernel_rfl) (by kernel_rfl) (ih ⟨some P, none, pc, 0⟩ _ (by simp only [Option.isSome, Bool.false_eq_true, if_false, if_true]; omega) ⟨by simp, hC⟩)
          refine AllReadyH.cons (o := ⟨some 8, Op.alloc 72, 0, _, _, none⟩) rfl (fun K hK => ?_) (AllReadyH.nil)
          · go_simp
            have hC := (hH.push [.int .i64 0, .int .i64 0] 72)
            change Has w _ (w2.alloc (.cells #[.int .i64 0, .int .i64 0] 72)) at hC
            generalize w2.alloc (.cells #[.int .i64 0, .int .i64 0] 72) = W at *
            generalize w2.heap.size = Q at *
            have hC' : Has w ([(Q, [.int .i64 0, .int .i64 0])] ++ [(w.heap.size + 2, [.int .i64 p0, .int .i64 p1]), (w.heap.size + 1, [.int .i64 b0, .int .i64 b1, .int .i64 b2]), (w.heap.size, [.int .i64 a0, .int .i64 a1, .int .i64 a2])]) W := hC
            refine hK.out _ _ (ms1.out _ (hC.tail)) (fun _ => ?_)
            exact wpAnyH_cast rfl (by kernel_rfl) (by kernel_rfl) (ih ⟨none, some Q, pc, 0⟩ _ (by simp only [Option.isSome, Bool.false_eq_true, if_false, if_true]; omega) ⟨by simp, hC⟩)
        | some Q =>
          simp only [Option.isSome, Bool.false_eq_true, if_false, if_true] at hk
          simp only [putc, putp, Act.put, decide_eq_true_eq, decide_true, decide_false, Nat.le_refl, Nat.reduceLeDiff, List.setIfInBounds_toArray, List.set_cons_zero, List.set_cons_succ]
          refine wpAnyH_listed #[true, false, true, true, true, false, true, false, false] (by kernel_rfl) ?_
          refine wpAnyH_ready (rs := [1, 5]) (by kernel_rfl) (by simp) ?_
          refine AllReadyH.cons (o := ⟨some 10, Op.call { callee := Callee.value (Operand.func 43), args := #[Operand.tmp 9], argTypes := #[24] }, 39, _, _, none⟩) rfl (fun K hK => ?_) (?_)
          · go_simp
            go_at_call 43
            refine (Has.call hH (spotof_any p0 p1 _)).mono ?_
            rintro e W ⟨rfl, hC⟩
            go_wp2_with fail
            refine hK.out _ _ (ms1.out _ hC.tail) (fun _ => ?_)
            exact wpAnyH_cast rfl (by kernel_rfl) (by kernel_rfl) (ih ⟨none, some Q, pc, 1⟩ _ (by simp only [Option.isSome, Bool.false_eq_true, if_false, if_true]; omega) ⟨by simp, hC⟩)
          refine AllReadyH.cons (o := ⟨some 7, Op.alloc 39, 0, _, _, none⟩) rfl (fun K hK => ?_) (AllReadyH.nil)
          · go_simp
            have hC := (hH.push [.int .i64 0, .int .i64 0, .int .i64 0] 39)
            change Has w _ (w2.alloc (.cells #[.int .i64 0, .int .i64 0, .int .i64 0] 39)) at hC
            generalize w2.alloc (.cells #[.int .i64 0, .int .i64 0, .int .i64 0] 39) = W at *
            generalize w2.heap.size = P at *
            have hC' : Has w ([(P, [.int .i64 0, .int .i64 0, .int .i64 0]), (Q, [.int .i64 0, .int .i64 0])] ++ [(w.heap.size + 2, [.int .i64 p0, .int .i64 p1]), (w.heap.size + 1, [.int .i64 b0, .int .i64 b1, .int .i64 b2]), (w.heap.size, [.int .i64 a0, .int .i64 a1, .int .i64 a2])]) W := hC
            refine hK.out _ _ (ms1.out _ (hC.tail.tail)) (fun _ => ?_)
            exact wpAnyH_cast rfl (by kernel_rfl) (by kernel_rfl) (ih ⟨some P, some Q, pc, 0⟩ _ (by simp only [Option.isSome, Bool.false_eq_true, if_false, if_true]; omega) ⟨by simp, hC⟩)
      | some P =>
        cases pb with
        | none =>
          simp only [Option.isSome, Bool.false_eq_true, if_false, if_true] at hk
          simp only [putc, putp, Act.put, decide_eq_true_eq, decide_true, decide_false, Nat.le_refl, Nat.reduceLeDiff, List.setIfInBounds_toArray, List.set_cons_zero, List.set_cons_succ]
          refine wpAnyH_listed #[true, false, true, true, true, true, false, false, false] (by kernel_rfl) ?_
          refine wpAnyH_ready (rs := [1, 6]) (by kernel_rfl) (by simp) ?_
          refine AllReadyH.cons (o := ⟨some 10, Op.call { callee := Callee.value (Operand.func 43), args := #[Operand.tmp 9], argTypes := #[24] }, 39, _, _, none⟩) rfl (fun K hK => ?_) (?_)
          · go_simp
            go_at_call 43
            refine (Has.call hH (spotof_any p0 p1 _)).mono ?_
            rintro e W ⟨rfl, hC⟩
            go_wp2_with fail
            refine hK.out _ _ (ms1.out _ hC.tail) (fun _ => ?_)
            exact wpAnyH_cast rfl (by kernel_rfl) (by kernel_rfl) (ih ⟨some P, none, pc, 1⟩ _ (by simp only [Option.isSome, Bool.false_eq_true, if_false, if_true]; omega) ⟨by simp, hC⟩)
          refine AllReadyH.cons (o := ⟨some 8, Op.alloc 72, 0, _, _, none⟩) rfl (fun K hK => ?_) (AllReadyH.nil)
          · go_simp
            have hC := (hH.push [.int .i64 0, .int .i64 0] 72).swap
            change Has w _ (w2.alloc (.cells #[.int .i64 0, .int .i64 0] 72)) at hC
            generalize w2.alloc (.cells #[.int .i64 0, .int .i64 0] 72) = W at *
            generalize w2.heap.size = Q at *
            have hC' : Has w ([(P, [.int .i64 0, .int .i64 0, .int .i64 0]), (Q, [.int .i64 0, .int .i64 0])] ++ [(w.heap.size + 2, [.int .i64 p0, .int .i64 p1]), (w.heap.size + 1, [.int .i64 b0, .int .i64 b1, .int .i64 b2]), (w.heap.size, [.int .i64 a0, .int .i64 a1, .int .i64 a2])]) W := hC
            refine hK.out _ _ (ms1.out _ (hC.tail.tail)) (fun _ => ?_)
            exact wpAnyH_cast rfl (by kernel_rfl) (by kernel_rfl) (ih ⟨some P, some Q, pc, 0⟩ _ (by simp only [Option.isSome, Bool.false_eq_true, if_false, if_true]; omega) ⟨by simp, hC⟩)
        | some Q =>
          simp only [Option.isSome, Bool.false_eq_true, if_false, if_true] at hk
          simp only [putc, putp, Act.put, decide_eq_true_eq, decide_true, decide_false, Nat.le_refl, Nat.reduceLeDiff, List.setIfInBounds_toArray, List.set_cons_zero, List.set_cons_succ]
          refine wpAnyH_listed #[true, false, true, true, true, true, true, false, false] (by kernel_rfl) ?_
          refine wpAnyH_ready (rs := [1]) (by kernel_rfl) (by simp) ?_
          refine AllReadyH.cons (o := ⟨some 10, Op.call { callee := Callee.value (Operand.func 43), args := #[Operand.tmp 9], argTypes := #[24] }, 39, _, _, none⟩) rfl (fun K hK => ?_) (AllReadyH.nil)
          · go_simp
            go_at_call 43
            refine (Has.call hH (spotof_any p0 p1 _)).mono ?_
            rintro e W ⟨rfl, hC⟩
            go_wp2_with fail
            refine hK.out _ _ (ms1.out _ hC.tail.tail) (fun _ => ?_)
            exact wpAnyH_cast rfl (by kernel_rfl) (by kernel_rfl) (ih ⟨some P, some Q, pc, 1⟩ _ (by simp only [Option.isSome, Bool.false_eq_true, if_false, if_true]; omega) ⟨by simp, hC⟩)
    · cases pa with
      | none =>
        cases pb with
        | none =>
          simp only [Option.isSome, Bool.false_eq_true, if_false, if_true] at hk
          simp only [putc, putp, Act.put, decide_eq_true_eq, decide_true, decide_false, Nat.le_refl, Nat.reduceLeDiff, List.setIfInBounds_toArray, List.set_cons_zero, List.set_cons_succ]
          refine wpAnyH_listed #[true, true, true, true, true, false, false, false, false] (by kernel_rfl) ?_
          refine wpAnyH_ready (rs := [5, 6]) (by kernel_rfl) (by simp) ?_
          refine AllReadyH.cons (o := ⟨some 7, Op.alloc 39, 0, _, _, none⟩) rfl (fun K hK => ?_) (?_)
          · go_simp
            have hC := (hH.push [.int .i64 0, .int .i64 0, .int .i64 0] 39)
            change Has w _ (w2.alloc (.cells #[.int .i64 0, .int .i64 0, .int .i64 0] 39)) at hC
            generalize w2.alloc (.cells #[.int .i64 0, .int .i64 0, .int .i64 0] 39) = W at *
            generalize w2.heap.size = P at *
            have hC' : Has w ([(P, [.int .i64 0, .int .i64 0, .int .i64 0])] ++ [(w.heap.size + 2, [.int .i64 p0, .int .i64 p1]), (w.heap.size + 1, [.int .i64 b0, .int .i64 b1, .int .i64 b2]), (w.heap.size, [.int .i64 a0, .int .i64 a1, .int .i64 a2])]) W := hC
            refine hK.out _ _ (ms1.out _ (hC.tail)) (fun _ => ?_)
            exact wpAnyH_cast rfl (by kernel_rfl) (by kernel_rfl) (ih ⟨some P, none, pc, 1⟩ _ (by simp only [Option.isSome, Bool.false_eq_true, if_false, if_true]; omega) ⟨by simp, hC⟩)
          refine AllReadyH.cons (o := ⟨some 8, Op.alloc 72, 0, _, _, none⟩) rfl (fun K hK => ?_) (AllReadyH.nil)
          · go_simp
            have hC := (hH.push [.int .i64 0, .int .i64 0] 72)
            change Has w _ (w2.alloc (.cells #[.int .i64 0, .int .i64 0] 72)) at hC
            generalize w2.alloc (.cells #[.int .i64 0, .int .i64 0] 72) = W at *
            generalize w2.heap.size = Q at *
            have hC' : Has w ([(Q, [.int .i64 0, .int .i64 0])] ++ [(w.heap.size + 2, [.int .i64 p0, .int .i64 p1]), (w.heap.size + 1, [.int .i64 b0, .int .i64 b1, .int .i64 b2]), (w.heap.size, [.int .i64 a0, .int .i64 a1, .int .i64 a2])]) W := hC
            refine hK.out _ _ (ms1.out _ (hC.tail)) (fun _ => ?_)
            exact wpAnyH_cast rfl (by kernel_rfl) (by kernel_rfl) (ih ⟨none, some Q, pc, 1⟩ _ (by simp only [Option.isSome, Bool.false_eq_true, if_false, if_true]; omega) ⟨by simp, hC⟩)
        | some Q =>
          simp only [Option.isSome, Bool.false_eq_true, if_false, if_true] at hk
          simp only [putc, putp, Act.put, decide_eq_true_eq, decide_true, decide_false, Nat.le_refl, Nat.reduceLeDiff, List.setIfInBounds_toArray, List.set_cons_zero, List.set_cons_succ]
          refine wpAnyH_listed #[true, true, true, true, true, false, true, false, false] (by kernel_rfl) ?_
          refine wpAnyH_ready (rs := [5]) (by kernel_rfl) (by simp) ?_
          refine AllReadyH.cons (o := ⟨some 7, Op.alloc 39, 0, _, _, none⟩) rfl (fun K hK => ?_) (AllReadyH.nil)
          · go_simp
            have hC := (hH.push [.int .i64 0, .int .i64 0, .int .i64 0] 39)
            change Has w _ (w2.alloc (.cells #[.int .i64 0, .int .i64 0, .int .i64 0] 39)) at hC
            generalize w2.alloc (.cells #[.int .i64 0, .int .i64 0, .int .i64 0] 39) = W at *
            generalize w2.heap.size = P at *
            have hC' : Has w ([(P, [.int .i64 0, .int .i64 0, .int .i64 0]), (Q, [.int .i64 0, .int .i64 0])] ++ [(w.heap.size + 2, [.int .i64 p0, .int .i64 p1]), (w.heap.size + 1, [.int .i64 b0, .int .i64 b1, .int .i64 b2]), (w.heap.size, [.int .i64 a0, .int .i64 a1, .int .i64 a2])]) W := hC
            refine hK.out _ _ (ms1.out _ (hC.tail.tail)) (fun _ => ?_)
            exact wpAnyH_cast rfl (by kernel_rfl) (by kernel_rfl) (ih ⟨some P, some Q, pc, 1⟩ _ (by simp only [Option.isSome, Bool.false_eq_true, if_false, if_true]; omega) ⟨by simp, hC⟩)
      | some P =>
        cases pb with
        | none =>
          simp only [Option.isSome, Bool.false_eq_true, if_false, if_true] at hk
          simp only [putc, putp, Act.put, decide_eq_true_eq, decide_true, decide_false, Nat.le_refl, Nat.reduceLeDiff, List.setIfInBounds_toArray, List.set_cons_zero, List.set_cons_succ]
          refine wpAnyH_listed #[true, true, true, true, true, true, false, false, false] (by kernel_rfl) ?_
          refine wpAnyH_ready (rs := [6]) (by kernel_rfl) (by simp) ?_
          refine AllReadyH.cons (o := ⟨some 8, Op.alloc 72, 0, _, _, none⟩) rfl (fun K hK => ?_) (AllReadyH.nil)
          · go_simp
            have hC := (hH.push [.int .i64 0, .int .i64 0] 72).swap
            change Has w _ (w2.alloc (.cells #[.int .i64 0, .int .i64 0] 72)) at hC
            generalize w2.alloc (.cells #[.int .i64 0, .int .i64 0] 72) = W at *
            generalize w2.heap.size = Q at *
            have hC' : Has w ([(P, [.int .i64 0, .int .i64 0, .int .i64 0]), (Q, [.int .i64 0, .int .i64 0])] ++ [(w.heap.size + 2, [.int .i64 p0, .int .i64 p1]), (w.heap.size + 1, [.int .i64 b0, .int .i64 b1, .int .i64 b2]), (w.heap.size, [.int .i64 a0, .int .i64 a1, .int .i64 a2])]) W := hC
            refine hK.out _ _ (ms1.out _ (hC.tail.tail)) (fun _ => ?_)
            exact wpAnyH_cast rfl (by kernel_rfl) (by kernel_rfl) (ih ⟨some P, some Q, pc, 1⟩ _ (by simp only [Option.isSome, Bool.false_eq_true, if_false, if_true]; omega) ⟨by simp, hC⟩)
        | some Q =>
          exact absurd hk (by simp)
  rintro ⟨pa, pb, pc, c⟩ w2 hk ⟨hc, hH⟩
  obtain ⟨P, Q, rfl, rfl, rfl⟩ : ∃ P Q, pa = some P ∧ pb = some Q ∧ c = 1 := by
    cases pa <;> cases pb <;> simp only [Option.isSome, Bool.false_eq_true, if_false, if_true] at hk <;> simp only at hc <;> first | exact ⟨_, _, rfl, rfl, by omega⟩ | omega
  simp only [putc, putp, Act.put, decide_eq_true_eq, decide_true, decide_false, Nat.le_refl, Nat.reduceLeDiff, List.setIfInBounds_toArray, List.set_cons_zero, List.set_cons_succ]
  have XA := hH
  change Has w [(P, [.int .i64 0, .int .i64 0, .int .i64 0]), (Q, [.int .i64 0, .int .i64 0]), (w.heap.size + 2, [.int .i64 p0, .int .i64 p1]), (w.heap.size + 1, [.int .i64 b0, .int .i64 b1, .int .i64 b2]), (w.heap.size, [.int .i64 a0, .int .i64 a1, .int .i64 a2])] w2 at XA
  clear hH hk hc
  refine wpAnyH_listed #[true, true, true, true, true, true, true, false, false] (by kernel_rfl) ?_
  refine wpAnyH_ready (rs := [7]) (by kernel_rfl) (by simp) ?_
  refine AllReadyH.cons (o := ⟨none, Op.store 39 (Operand.tmp 7) (Operand.tmp 10), 0, _, _, none⟩) rfl (fun K hK => ?_) AllReadyH.nil
  have k0 := XA.fact (.head _) (i := 0) rfl
  have k1 := XA.fact (.head _) (i := 1) rfl
  have k2 := XA.fact (.head _) (i := 2) rfl
  have f0 := XA.free (.head _) (i := 0) rfl
  have f1 := XA.free (.head _) (i := 1) rfl
  have f2 := XA.free (.head _) (i := 2) rfl
  go_simp
  have XA0 : Has w [(P, [.int .i64 p0, .int .i64 p1, .int .i64 1]), (Q, [.int .i64 0, .int .i64 0]), (w.heap.size + 2, [.int .i64 p0, .int .i64 p1]), (w.heap.size + 1, [.int .i64 b0, .int .i64 b1, .int .i64 b2]), (w.heap.size, [.int .i64 a0, .int .i64 a1, .int .i64 a2])] (World.setCell (World.setCell (World.setCell w2 ⟨P, 0, none⟩ (.int .i64 p0)) ⟨P, 1, none⟩ (.int .i64 p1)) ⟨P, 2, none⟩ (.int .i64 1)) := (XA.set3 (.int .i64 p0) (.int .i64 p1) (.int .i64 1))
  generalize (World.setCell (World.setCell (World.setCell w2 ⟨P, 0, none⟩ (.int .i64 p0)) ⟨P, 1, none⟩ (.int .i64 p1)) ⟨P, 2, none⟩ (.int .i64 1)) = wA0 at *
  clear k0 f0 k1 f1 k2 f2 XA
  clear hHeld
  refine hK.out _ _ (ms1.out _ XA0.tail.tail) (fun hHeld => ?_)
  clear hK K
  try simp only [List.setIfInBounds_toArray, List.set_cons_zero, List.set_cons_succ]
  refine wpAnyH_listed #[true, true, true, true, true, true, true, true, false] (by kernel_rfl) ?_
  refine wpAnyH_ready (rs := [8]) (by kernel_rfl) (by simp) ?_
  refine AllReadyH.cons (o := ⟨none, Op.store 72 (Operand.tmp 8) (Operand.tmp 13), 0, _, _, none⟩) rfl (fun K hK => ?_) AllReadyH.nil
  have k0 := XA0.tail.fact (.head _) (i := 0) rfl
  have k1 := XA0.tail.fact (.head _) (i := 1) rfl
  have f0 := XA0.tail.free (.head _) (i := 0) rfl
  have f1 := XA0.tail.free (.head _) (i := 1) rfl
  go_simp
  have X1 : Has w [(P, [.int .i64 p0, .int .i64 p1, .int .i64 1]), (Q, [.int .i64 p1, .int .i64 1]), (w.heap.size + 2, [.int .i64 p0, .int .i64 p1]), (w.heap.size + 1, [.int .i64 b0, .int .i64 b1, .int .i64 b2]), (w.heap.size, [.int .i64 a0, .int .i64 a1, .int .i64 a2])] (World.setCell (World.setCell wA0 ⟨Q, 0, none⟩ (.int .i64 p1)) ⟨Q, 1, none⟩ (.int .i64 1)) := (XA0.swap.set2 (.int .i64 p1) (.int .i64 1)).swap
  generalize (World.setCell (World.setCell wA0 ⟨Q, 0, none⟩ (.int .i64 p1)) ⟨Q, 1, none⟩ (.int .i64 1)) = w3 at *
  clear k0 f0 k1 f1 XA0
  clear hHeld
  refine hK.out _ _ (ms1.out _ X1.tail.tail) (fun hHeld => ?_)
  clear hK K
  try simp only [List.setIfInBounds_toArray, List.set_cons_zero, List.set_cons_succ]
  refine wpAnyH_listed #[true, true, true, true, true, true, true, true, true] (by kernel_rfl) ?_
  refine wpAnyH_done (by kernel_rfl) ?_ _
  try clear hHeld
  clear X0 ms1 C0
  obtain ⟨k0, k1, k2⟩ := X1.tail.tail.tail.tri
  obtain ⟨k3, k4, k5⟩ := X1.tail.tail.tail.tail.tri
  go_wp2_with fail
  refine (Has.call X1 (spassed_any a0 a1 a2 b0 b1 b2 p0 p1 P Q _ _ _ X1 h1 h2 h3 h4 h5)).mono ?_
  rintro e w5 ⟨rfl, X5⟩
  go_wp2_with fail
  go_ret
  exact ⟨rfl, X5.low⟩
theorem rayspot_is (a0 a1 a2 b0 b1 b2 p0 p1 s : Int) (h : rayS a0 a1 a2 b0 b1 b2 p0 p1 = s) (w : World) (h1 : (-9223372036854775808 ≤ a1 ∧ a1 ≤ 9223372036854775807)) (h2 : (-9223372036854775808 ≤ a2 ∧ a2 ≤ 9223372036854775807)) (h3 : (-9223372036854775808 ≤ b1 ∧ b1 ≤ 9223372036854775807)) (h4 : (-9223372036854775808 ≤ b2 ∧ b2 ≤ 9223372036854775807)) (h5 : (-9223372036854775808 ≤ p1 ∧ p1 ≤ 9223372036854775807)) :
    Calls Try.prog 22 #[.agg #[.int .i64 a0, .int .i64 a1, .int .i64 a2], .agg #[.int .i64 b0, .int .i64 b1, .int .i64 b2], .agg #[.int .i64 p0, .int .i64 p1]] w fun e w' => e = .returned (.int .i64 s) ∧ Below w.heap.size w w' := h ▸ rayspot_any a0 a1 a2 b0 b1 b2 p0 p1 w h1 h2 h3 h4 h5
theorem at_any (x y : Int) (w : World) : Calls Try.prog 13 #[.int .i64 x, .int .i64 y] w fun e w' => e = .returned (.agg #[.int .i64 x, .int .i64 y]) ∧ Below w.heap.size w w' := by
  go_enter Try.func13, Try.ntmps13
  go_wp2
  go_returns
  exact ⟨rfl, by go_grown⟩

end Go.Proofs.Ytmldgjhecoeldaa
