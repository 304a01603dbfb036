/- exact.Cmp, and the reference's. ring.Ray: whether a segment passes to the left of a point. The reference's Ray. -/
import Derived.Test.YtmldgjhecoeldaaLaw
import Derived.Test.YtmldgjhecoeldaaRMeet
import Derived.Test.YtmldgjhecoeldaaSide
import Derived.Test.YtmldgjhecoeldaaRSide
import Derived.Test.YtmldgjhecoeldaaSeq
namespace Go.Proofs.Ytmldgjhecoeldaa
open Go.RowKit Go.Lib

/-- What Cmp answers of two ratios. -/
def cmpOf (n d m e : Int) : Int := if d < 1 ∨ e < 1 then 0 else (n * e - m * d).sign
theorem cmpOf_no1 {n d m e : Int} (h : d < 1) : 0 = cmpOf n d m e := by unfold cmpOf; rw [if_pos (Or.inl h)]
theorem cmpOf_no2 {n d m e : Int} (h : e < 1) : 0 = cmpOf n d m e := by unfold cmpOf; rw [if_pos (Or.inr h)]
theorem cmpOf_yes {n d m e : Int} (h : 1 ≤ d) (k : 1 ≤ e) : (n * e - m * d).sign = cmpOf n d m e := by unfold cmpOf; rw [if_neg (by omega)]

set_option maxHeartbeats 400000 in
theorem ratio_any (n d : Int) (w : World) :
    Calls Try.prog 72 #[.agg #[.int .i64 n, .int .i64 d]] w fun e w' => e = .returned (.bool (decide (1 ≤ d))) ∧ Below w.heap.size w w' := by
  go_enter Try.func72, Try.ntmps72
  go_wp2
  go_ret
  exact ⟨rfl, (Below.refl _ _).alloc (Nat.le_refl _) _⟩

set_option maxHeartbeats 400000 in
theorem cmp_any (n d m e : Int) (w : World) (ha : -9223372036854775808 ≤ n ∧ n ≤ 9223372036854775807) (hb : -9223372036854775808 ≤ d ∧ d ≤ 9223372036854775807) (hc : -9223372036854775808 ≤ m ∧ m ≤ 9223372036854775807) (hd : -9223372036854775808 ≤ e ∧ e ≤ 9223372036854775807) :
    Calls Try.prog 45 #[.agg #[.int .i64 n, .int .i64 d], .agg #[.int .i64 m, .int .i64 e]] w fun en w' => en = .returned (.int .i64 (cmpOf n d m e)) ∧ Below w.heap.size w w' := by
  by_cases h1 : 1 ≤ d
  · by_cases h2 : 1 ≤ e
    · go_enter Try.func45, Try.ntmps45
      go_wp2_with fail
      refine (ratio_any _ _ _).mono ?_
      rintro en w1 ⟨rfl, hb1⟩
      have t1 := ((Cells.made w [.int .i64 n, .int .i64 d] 72).alloc (by simp) (.cells #[.int .i64 m, .int .i64 e] 72)).later hb1 (by simp; omega)
      have t2 := (Cells.made (w.alloc (.cells #[.int .i64 n, .int .i64 d] 72)) [.int .i64 m, .int .i64 e] 72).later hb1 (by simp)
      rw [size_alloc] at t2
      have s1 : w.heap.size + 2 ≤ w1.heap.size := by have := hb1.size; simp at this; omega
      have c1 := (t1.get 0 rfl).1
      have c2 := (t1.get 1 rfl).1
      have c3 := (t2.get 0 rfl).1
      have c4 := (t2.get 1 rfl).1
      go_wp2_with fail
      refine (ratio_any _ _ _).mono ?_
      rintro en w2 ⟨rfl, hb2⟩
      have t3 := t1.later hb2 (by omega)
      have t4 := t2.later hb2 (by omega)
      have c5 := (t3.get 0 rfl).1
      have c6 := (t3.get 1 rfl).1
      have c7 := (t4.get 0 rfl).1
      have c8 := (t4.get 1 rfl).1
      have s2 : w.heap.size + 2 ≤ w2.heap.size := by have := hb2.size; omega
      go_wp2_with fail
      refine (sign2_any _ _ _ _ _ ha hd hc hb).mono ?_
      rintro en w3 ⟨rfl, hb3⟩
      go_wp2_with fail
      go_ret
      exact ⟨ret_i (cmpOf_yes h1 h2), ((((Below.refl _ _).alloc (Nat.le_refl _) _).alloc (by simp) _).trans (hb1.mono (by simp; omega))).trans ((hb2.mono (by omega)).trans (hb3.mono (by omega)))⟩
    · have h3 : decide (1 ≤ e) = false := by simpa using h2
      go_enter Try.func45, Try.ntmps45
      go_wp2_with fail
      refine (ratio_any _ _ _).mono ?_
      rintro en w1 ⟨rfl, hb1⟩
      have t2 := (Cells.made (w.alloc (.cells #[.int .i64 n, .int .i64 d] 72)) [.int .i64 m, .int .i64 e] 72).later hb1 (by simp)
      rw [size_alloc] at t2
      have s1 : w.heap.size + 2 ≤ w1.heap.size := by have := hb1.size; simp at this; omega
      have c3 := (t2.get 0 rfl).1
      have c4 := (t2.get 1 rfl).1
      go_wp2_with fail
      refine (ratio_any _ _ _).mono ?_
      rintro en w2 ⟨rfl, hb2⟩
      go_wp2_with fail
      go_ret
      exact ⟨ret_i (cmpOf_no2 (by omega)), ((((Below.refl _ _).alloc (Nat.le_refl _) _).alloc (by simp) _).trans (hb1.mono (by simp; omega))).trans (hb2.mono (by omega))⟩
  · have h3 : decide (1 ≤ d) = false := by simpa using h1
    go_enter Try.func45, Try.ntmps45
    go_wp2_with fail
    refine (ratio_any _ _ _).mono ?_
    rintro en w1 ⟨rfl, hb1⟩
    go_wp2_with fail
    go_ret
    exact ⟨ret_i (cmpOf_no1 (by omega)), (((Below.refl _ _).alloc (Nat.le_refl _) _).alloc (by simp) _).trans (hb1.mono (by simp; omega))⟩

set_option maxHeartbeats 400000 in
theorem rcmp_any (n d m e : Int) (w : World) (ha : -9223372036854775808 ≤ n ∧ n ≤ 9223372036854775807) (hb : -9223372036854775808 ≤ d ∧ d ≤ 9223372036854775807) (hc : -9223372036854775808 ≤ m ∧ m ≤ 9223372036854775807) (hd : -9223372036854775808 ≤ e ∧ e ≤ 9223372036854775807) :
    Calls Try.prog 78 #[.agg #[.int .i64 n, .int .i64 d], .agg #[.int .i64 m, .int .i64 e]] w fun en w' => en = .returned (.int .i64 (cmpOf n d m e)) ∧ Below w.heap.size w w' := by
  by_cases h1 : 1 ≤ d
  · by_cases h2 : 1 ≤ e
    · go_enter Try.func78, Try.ntmps78
      go_wp2_with fail
      refine (rsign2_any _ _ _ _ _ ha hd hc hb).mono ?_
      rintro en w3 ⟨rfl, hb3⟩
      go_wp2_with fail
      go_ret
      exact ⟨ret_i (cmpOf_yes h1 h2), (((Below.refl _ _).alloc (Nat.le_refl _) _).alloc (by simp) _).trans (hb3.mono (by simp; omega))⟩
    · go_enter Try.func78, Try.ntmps78
      go_wp2_with fail
      go_ret
      exact ⟨ret_i (cmpOf_no2 (by omega)), (((Below.refl _ _).alloc (Nat.le_refl _) _).alloc (by simp) _)⟩
  · go_enter Try.func78, Try.ntmps78
    go_wp2_with fail
    go_ret
    exact ⟨ret_i (cmpOf_no1 (by omega)), (((Below.refl _ _).alloc (Nat.le_refl _) _).alloc (by simp) _)⟩
end Go.Proofs.Ytmldgjhecoeldaa

namespace Go.Proofs.Ytmldgjhecoeldaa
open Go.RowKit Go.Lib

/-- A point of the caller's, on which a closure looks. -/
theorem above_any (x y p0 p1 : Int) (B : Nat) (w w0 : World) (bs : List (Nat × List Value)) (hH : Has w0 ((B, [.int .i64 p0, .int .i64 p1]) :: bs) w) :
    Calls Try.prog 38 #[.agg #[.int .i64 x, .int .i64 y], .pointer (some ⟨B, 0, none⟩)] w fun e w' => e = .returned (.bool (decide (p1 < y))) ∧ Below w.heap.size w w' := by
  have D0 := hH.push [.int .i64 x, .int .i64 y] 24
  have gr : Grows w (w.alloc (.cells #[.int .i64 x, .int .i64 y] 24)) := (Below.refl _ w).alloc (Nat.le_refl _) _
  change Has w0 _ (w.alloc (.cells #[.int .i64 x, .int .i64 y] 24)) at D0
  obtain ⟨k0, k1⟩ := D0.pt
  obtain ⟨k2, k3⟩ := D0.tail.pt
  go_enter Try.func38, Try.ntmps38
  go_wp2_with fail
  generalize w.alloc (.cells #[.int .i64 x, .int .i64 y] 24) = w1 at *
  go_wp2_with fail
  go_ret
  exact ⟨rfl, gr⟩
theorem rside_c (a0 a1 b0 b1 p0 p1 : Int) (B : Nat) (w w0 : World) (bs : List (Nat × List Value)) (hH : Has w0 ((B, [.int .i64 p0, .int .i64 p1]) :: bs) w) :
    Calls Try.prog 39 #[.agg #[.int .i64 a0, .int .i64 a1], .agg #[.int .i64 b0, .int .i64 b1], .pointer (some ⟨B, 0, none⟩)] w fun e w' => e = .returned (.int .i64 (sideOf a0 a1 b0 b1 p0 p1)) ∧ Below w.heap.size w w' := by
  have D0 := (hH.push [.int .i64 a0, .int .i64 a1] 24).push [.int .i64 b0, .int .i64 b1] 24
  rw [size_alloc] at D0
  change Has w0 _ ((w.alloc (.cells #[.int .i64 a0, .int .i64 a1] 24)).alloc (.cells #[.int .i64 b0, .int .i64 b1] 24)) at D0
  have gr : Grows w ((w.alloc (.cells #[.int .i64 a0, .int .i64 a1] 24)).alloc (.cells #[.int .i64 b0, .int .i64 b1] 24)) := ((Below.refl _ w).alloc (Nat.le_refl _) _).alloc (by simp) _
  obtain ⟨k0, k1⟩ := D0.pt
  obtain ⟨k2, k3⟩ := D0.tail.pt
  obtain ⟨k4, k5⟩ := D0.tail.tail.pt
  go_enter Try.func39, Try.ntmps39
  go_wp2_with fail
  generalize (w.alloc (.cells #[.int .i64 a0, .int .i64 a1] 24)).alloc (.cells #[.int .i64 b0, .int .i64 b1] 24) = w1 at *
  go_wp2_with fail
  refine (side_any a0 a1 b0 b1 p0 p1 _).mono ?_
  rintro e w2 ⟨rfl, g⟩
  go_wp2_with fail
  go_ret
  exact ⟨rfl, gr.then g⟩

theorem above_is (x y p0 p1 : Int) (B : Nat) (w w0 : World) (bs : List (Nat × List Value)) (hH : Has w0 ((B, [.int .i64 p0, .int .i64 p1]) :: bs) w) (r : Bool) (h : decide (p1 < y) = r) :
    Calls Try.prog 38 #[.agg #[.int .i64 x, .int .i64 y], .pointer (some ⟨B, 0, none⟩)] w fun e w' => e = .returned (.bool r) ∧ Below w.heap.size w w' := h ▸ above_any x y p0 p1 B w w0 bs hH
theorem rside_ci (a0 a1 b0 b1 p0 p1 : Int) (B : Nat) (w w0 : World) (bs : List (Nat × List Value)) (hH : Has w0 ((B, [.int .i64 p0, .int .i64 p1]) :: bs) w) (s : Int) (h : sideOf a0 a1 b0 b1 p0 p1 = s) :
    Calls Try.prog 39 #[.agg #[.int .i64 a0, .int .i64 a1], .agg #[.int .i64 b0, .int .i64 b1], .pointer (some ⟨B, 0, none⟩)] w fun e w' => e = .returned (.int .i64 s) ∧ Below w.heap.size w w' := h ▸ rside_c a0 a1 b0 b1 p0 p1 B w w0 bs hH
/-- A segment passes upwards. -/
def upP (a0 a1 b0 b1 p0 p1 : Int) : Bool := !decide (p1 < a1) && (decide (p1 < b1) && decide (sideOf a0 a1 b0 b1 p0 p1 < 0))

set_option maxHeartbeats 1000000 in
theorem up_any (a0 a1 b0 b1 p0 p1 : Int) (B : Nat) (w w0 : World) (bs : List (Nat × List Value)) (hH : Has w0 ((B, [.int .i64 p0, .int .i64 p1]) :: bs) w) :
    Calls Try.prog 69 #[.agg #[.func (.func 38) #[] #[.pointer (some ⟨B, 0, none⟩)], .func (.func 39) #[] #[.pointer (some ⟨B, 0, none⟩)]], .agg #[.int .i64 a0, .int .i64 a1], .agg #[.int .i64 b0, .int .i64 b1]] w fun e w' => e = .returned (.bool (upP a0 a1 b0 b1 p0 p1)) ∧ Below w.heap.size w w' := by
  obtain ⟨r1, h1⟩ : ∃ r, decide (p1 < a1) = r := ⟨_, rfl⟩
  obtain ⟨r2, h2⟩ : ∃ r, decide (p1 < b1) = r := ⟨_, rfl⟩
  obtain ⟨s, h3⟩ : ∃ s, sideOf a0 a1 b0 b1 p0 p1 = s := ⟨_, rfl⟩
  have hR : upP a0 a1 b0 b1 p0 p1 = (!r1 && (r2 && decide (s < 0))) := by unfold upP; rw [h1, h2, h3]
  rw [hR]
  have H1 := Lib.hid h1
  have H2 := Lib.hid h2
  have H3 := Lib.hid h3
  clear h1 h2 h3 hR
  have D0 := ((hH.push [.func (.func 38) #[] #[.pointer (some ⟨B, 0, none⟩)], .func (.func 39) #[] #[.pointer (some ⟨B, 0, none⟩)]] 69).push [.int .i64 a0, .int .i64 a1] 24).push [.int .i64 b0, .int .i64 b1] 24
  rw [size_alloc, size_alloc] at D0
  change Has w0 ((w.heap.size + 2, [.int .i64 b0, .int .i64 b1]) :: (w.heap.size + 1, [.int .i64 a0, .int .i64 a1]) :: (w.heap.size, [.func (.func 38) #[] #[.pointer (some ⟨B, 0, none⟩)], .func (.func 39) #[] #[.pointer (some ⟨B, 0, none⟩)]]) :: (B, [.int .i64 p0, .int .i64 p1]) :: bs) (((w.alloc (.cells #[.func (.func 38) #[] #[.pointer (some ⟨B, 0, none⟩)], .func (.func 39) #[] #[.pointer (some ⟨B, 0, none⟩)]] 69)).alloc (.cells #[.int .i64 a0, .int .i64 a1] 24)).alloc (.cells #[.int .i64 b0, .int .i64 b1] 24)) at D0
  have gr : Grows w (((w.alloc (.cells #[.func (.func 38) #[] #[.pointer (some ⟨B, 0, none⟩)], .func (.func 39) #[] #[.pointer (some ⟨B, 0, none⟩)]] 69)).alloc (.cells #[.int .i64 a0, .int .i64 a1] 24)).alloc (.cells #[.int .i64 b0, .int .i64 b1] 24)) := (((Below.refl _ w).alloc (Nat.le_refl _) _).alloc (by simp) _).alloc (by simp; omega) _
  obtain ⟨k0, k1⟩ := D0.pt
  obtain ⟨k2, k3⟩ := D0.tail.pt
  obtain ⟨k4, k5⟩ := D0.tail.tail.pt
  cases r1
  · cases r2
    · go_enter Try.func69, Try.ntmps69
      go_wp2_with fail
      generalize (((w.alloc (.cells #[.func (.func 38) #[] #[.pointer (some ⟨B, 0, none⟩)], .func (.func 39) #[] #[.pointer (some ⟨B, 0, none⟩)]] 69)).alloc (.cells #[.int .i64 a0, .int .i64 a1] 24)).alloc (.cells #[.int .i64 b0, .int .i64 b1] 24)) = w1 at *
      go_wp2_with fail
      refine (above_is a0 a1 p0 p1 B _ _ _ D0.tail.tail.tail _ H1.out).mono ?_
      rintro e w2 ⟨rfl, g2⟩
      clear k0 k1 k2 k3 k4 k5
      have D1 := D0.later g2
      obtain ⟨k0, k1⟩ := D1.pt
      obtain ⟨k2, k3⟩ := D1.tail.pt
      obtain ⟨k4, k5⟩ := D1.tail.tail.pt
      go_wp2_with fail
      refine (above_is b0 b1 p0 p1 B _ _ _ D1.tail.tail.tail _ H2.out).mono ?_
      rintro e w3 ⟨rfl, g3⟩
      clear k0 k1 k2 k3 k4 k5
      go_wp2_with fail
      go_ret
      exact ⟨rfl, (gr.then g2).then g3⟩
    · go_enter Try.func69, Try.ntmps69
      go_wp2_with fail
      generalize (((w.alloc (.cells #[.func (.func 38) #[] #[.pointer (some ⟨B, 0, none⟩)], .func (.func 39) #[] #[.pointer (some ⟨B, 0, none⟩)]] 69)).alloc (.cells #[.int .i64 a0, .int .i64 a1] 24)).alloc (.cells #[.int .i64 b0, .int .i64 b1] 24)) = w1 at *
      go_wp2_with fail
      refine (above_is a0 a1 p0 p1 B _ _ _ D0.tail.tail.tail _ H1.out).mono ?_
      rintro e w2 ⟨rfl, g2⟩
      clear k0 k1 k2 k3 k4 k5
      have D1 := D0.later g2
      obtain ⟨k0, k1⟩ := D1.pt
      obtain ⟨k2, k3⟩ := D1.tail.pt
      obtain ⟨k4, k5⟩ := D1.tail.tail.pt
      go_wp2_with fail
      refine (above_is b0 b1 p0 p1 B _ _ _ D1.tail.tail.tail _ H2.out).mono ?_
      rintro e w3 ⟨rfl, g3⟩
      clear k0 k1 k2 k3 k4 k5
      have D2 := D1.later g3
      obtain ⟨k0, k1⟩ := D2.pt
      obtain ⟨k2, k3⟩ := D2.tail.pt
      obtain ⟨k4, k5⟩ := D2.tail.tail.pt
      go_wp2_with fail
      refine (rside_ci a0 a1 b0 b1 p0 p1 B _ _ _ D2.tail.tail.tail _ H3.out).mono ?_
      rintro e w4 ⟨rfl, g4⟩
      clear k0 k1 k2 k3 k4 k5
      go_wp2_with fail
      go_ret
      exact ⟨rfl, ((gr.then g2).then g3).then g4⟩
  · go_enter Try.func69, Try.ntmps69
    go_wp2_with fail
    generalize (((w.alloc (.cells #[.func (.func 38) #[] #[.pointer (some ⟨B, 0, none⟩)], .func (.func 39) #[] #[.pointer (some ⟨B, 0, none⟩)]] 69)).alloc (.cells #[.int .i64 a0, .int .i64 a1] 24)).alloc (.cells #[.int .i64 b0, .int .i64 b1] 24)) = w1 at *
    go_wp2_with fail
    refine (above_is a0 a1 p0 p1 B _ _ _ D0.tail.tail.tail _ H1.out).mono ?_
    rintro e w2 ⟨rfl, g2⟩
    clear k0 k1 k2 k3 k4 k5
    go_wp2_with fail
    go_ret
    exact ⟨rfl, gr.then g2⟩
theorem up_is (a0 a1 b0 b1 p0 p1 : Int) (B : Nat) (w w0 : World) (bs : List (Nat × List Value)) (hH : Has w0 ((B, [.int .i64 p0, .int .i64 p1]) :: bs) w) (r : Bool) (h : upP a0 a1 b0 b1 p0 p1 = r) :
    Calls Try.prog 69 #[.agg #[.func (.func 38) #[] #[.pointer (some ⟨B, 0, none⟩)], .func (.func 39) #[] #[.pointer (some ⟨B, 0, none⟩)]], .agg #[.int .i64 a0, .int .i64 a1], .agg #[.int .i64 b0, .int .i64 b1]] w fun e w' => e = .returned (.bool r) ∧ Below w.heap.size w w' := h ▸ up_any a0 a1 b0 b1 p0 p1 B w w0 bs hH
/-- What Ray answers. -/
def rayOf (a0 a1 b0 b1 p0 p1 : Int) : Int := if upP a0 a1 b0 b1 p0 p1 = true then 1 else if upP b0 b1 a0 a1 p0 p1 = true then -1 else 0
theorem rayOf_1 {a0 a1 b0 b1 p0 p1 : Int} (h : upP a0 a1 b0 b1 p0 p1 = true) : 1 = rayOf a0 a1 b0 b1 p0 p1 := by unfold rayOf; rw [if_pos h]
theorem rayOf_2 {a0 a1 b0 b1 p0 p1 : Int} (h : upP a0 a1 b0 b1 p0 p1 = false) (k : upP b0 b1 a0 a1 p0 p1 = true) : -1 = rayOf a0 a1 b0 b1 p0 p1 := by unfold rayOf; rw [if_neg (by rw [h]; simp), if_pos k]
theorem rayOf_3 {a0 a1 b0 b1 p0 p1 : Int} (h : upP a0 a1 b0 b1 p0 p1 = false) (k : upP b0 b1 a0 a1 p0 p1 = false) : 0 = rayOf a0 a1 b0 b1 p0 p1 := by unfold rayOf; rw [if_neg (by rw [h]; simp), if_neg (by rw [k]; simp)]

set_option maxHeartbeats 1000000 in
theorem passed_any (a0 a1 b0 b1 p0 p1 : Int) (B : Nat) (w w0 : World) (bs : List (Nat × List Value)) (hH : Has w0 ((B, [.int .i64 p0, .int .i64 p1]) :: bs) w) :
    Calls Try.prog 41 #[.agg #[.func (.func 38) #[] #[.pointer (some ⟨B, 0, none⟩)], .func (.func 39) #[] #[.pointer (some ⟨B, 0, none⟩)]], .agg #[.int .i64 a0, .int .i64 a1], .agg #[.int .i64 b0, .int .i64 b1]] w fun e w' => e = .returned (.int .i64 (rayOf a0 a1 b0 b1 p0 p1)) ∧ Below w.heap.size w w' := by
  have D0 := ((hH.push [.func (.func 38) #[] #[.pointer (some ⟨B, 0, none⟩)], .func (.func 39) #[] #[.pointer (some ⟨B, 0, none⟩)]] 69).push [.int .i64 a0, .int .i64 a1] 24).push [.int .i64 b0, .int .i64 b1] 24
  rw [size_alloc, size_alloc] at D0
  change Has w0 ((w.heap.size + 2, [.int .i64 b0, .int .i64 b1]) :: (w.heap.size + 1, [.int .i64 a0, .int .i64 a1]) :: (w.heap.size, [.func (.func 38) #[] #[.pointer (some ⟨B, 0, none⟩)], .func (.func 39) #[] #[.pointer (some ⟨B, 0, none⟩)]]) :: (B, [.int .i64 p0, .int .i64 p1]) :: bs) (((w.alloc (.cells #[.func (.func 38) #[] #[.pointer (some ⟨B, 0, none⟩)], .func (.func 39) #[] #[.pointer (some ⟨B, 0, none⟩)]] 69)).alloc (.cells #[.int .i64 a0, .int .i64 a1] 24)).alloc (.cells #[.int .i64 b0, .int .i64 b1] 24)) at D0
  have gr : Grows w (((w.alloc (.cells #[.func (.func 38) #[] #[.pointer (some ⟨B, 0, none⟩)], .func (.func 39) #[] #[.pointer (some ⟨B, 0, none⟩)]] 69)).alloc (.cells #[.int .i64 a0, .int .i64 a1] 24)).alloc (.cells #[.int .i64 b0, .int .i64 b1] 24)) := (((Below.refl _ w).alloc (Nat.le_refl _) _).alloc (by simp) _).alloc (by simp; omega) _
  obtain ⟨k0, k1⟩ := D0.pt
  obtain ⟨k2, k3⟩ := D0.tail.pt
  obtain ⟨k4, k5⟩ := D0.tail.tail.pt
  cases h1 : upP a0 a1 b0 b1 p0 p1
  · cases h2 : upP b0 b1 a0 a1 p0 p1
    · have HV := Lib.hid (rayOf_3 h1 h2)
      have H1 := Lib.hid h1
      have H2 := Lib.hid h2
      clear h1 h2
      go_enter Try.func41, Try.ntmps41
      go_wp2_with fail
      generalize (((w.alloc (.cells #[.func (.func 38) #[] #[.pointer (some ⟨B, 0, none⟩)], .func (.func 39) #[] #[.pointer (some ⟨B, 0, none⟩)]] 69)).alloc (.cells #[.int .i64 a0, .int .i64 a1] 24)).alloc (.cells #[.int .i64 b0, .int .i64 b1] 24)) = w1 at *
      go_wp2_with fail
      refine (up_is a0 a1 b0 b1 p0 p1 B _ _ _ D0.tail.tail.tail _ H1.out).mono ?_
      rintro e w2 ⟨rfl, g2⟩
      clear k0 k1 k2 k3 k4 k5
      have D1 := D0.later g2
      obtain ⟨k0, k1⟩ := D1.pt
      obtain ⟨k2, k3⟩ := D1.tail.pt
      obtain ⟨k4, k5⟩ := D1.tail.tail.pt
      go_wp2_with fail
      refine (up_is b0 b1 a0 a1 p0 p1 B _ _ _ D1.tail.tail.tail _ H2.out).mono ?_
      rintro e w3 ⟨rfl, g3⟩
      clear k0 k1 k2 k3 k4 k5
      go_wp2_with fail
      go_ret
      exact ⟨ret_i HV.out, (gr.then g2).then g3⟩
    · have HV := Lib.hid (rayOf_2 h1 h2)
      have H1 := Lib.hid h1
      have H2 := Lib.hid h2
      clear h1 h2
      go_enter Try.func41, Try.ntmps41
      go_wp2_with fail
      generalize (((w.alloc (.cells #[.func (.func 38) #[] #[.pointer (some ⟨B, 0, none⟩)], .func (.func 39) #[] #[.pointer (some ⟨B, 0, none⟩)]] 69)).alloc (.cells #[.int .i64 a0, .int .i64 a1] 24)).alloc (.cells #[.int .i64 b0, .int .i64 b1] 24)) = w1 at *
      go_wp2_with fail
      refine (up_is a0 a1 b0 b1 p0 p1 B _ _ _ D0.tail.tail.tail _ H1.out).mono ?_
      rintro e w2 ⟨rfl, g2⟩
      clear k0 k1 k2 k3 k4 k5
      have D1 := D0.later g2
      obtain ⟨k0, k1⟩ := D1.pt
      obtain ⟨k2, k3⟩ := D1.tail.pt
      obtain ⟨k4, k5⟩ := D1.tail.tail.pt
      go_wp2_with fail
      refine (up_is b0 b1 a0 a1 p0 p1 B _ _ _ D1.tail.tail.tail _ H2.out).mono ?_
      rintro e w3 ⟨rfl, g3⟩
      clear k0 k1 k2 k3 k4 k5
      go_wp2_with fail
      go_ret
      exact ⟨ret_i HV.out, (gr.then g2).then g3⟩
  · have HV := Lib.hid (rayOf_1 h1)
    have H1 := Lib.hid h1
    clear h1
    go_enter Try.func41, Try.ntmps41
    go_wp2_with fail
    generalize (((w.alloc (.cells #[.func (.func 38) #[] #[.pointer (some ⟨B, 0, none⟩)], .func (.func 39) #[] #[.pointer (some ⟨B, 0, none⟩)]] 69)).alloc (.cells #[.int .i64 a0, .int .i64 a1] 24)).alloc (.cells #[.int .i64 b0, .int .i64 b1] 24)) = w1 at *
    go_wp2_with fail
    refine (up_is a0 a1 b0 b1 p0 p1 B _ _ _ D0.tail.tail.tail _ H1.out).mono ?_
    rintro e w2 ⟨rfl, g2⟩
    clear k0 k1 k2 k3 k4 k5
    go_wp2_with fail
    go_ret
    exact ⟨ret_i HV.out, gr.then g2⟩

theorem ray_any (a0 a1 b0 b1 p0 p1 : Int) (w : World) :
    Calls Try.prog 20 #[.agg #[.int .i64 a0, .int .i64 a1], .agg #[.int .i64 b0, .int .i64 b1], .agg #[.int .i64 p0, .int .i64 p1]] w fun e w' => e = .returned (.int .i64 (rayOf a0 a1 b0 b1 p0 p1)) ∧ Below w.heap.size w w' := by
  have C0 := has3 (w := w) [.int .i64 a0, .int .i64 a1] [.int .i64 b0, .int .i64 b1] [.int .i64 p0, .int .i64 p1] 24 24 24
  go_enter Try.func20, Try.ntmps20
  go_wp2_with fail
  change Has w _ (((w.alloc (.cells #[.int .i64 a0, .int .i64 a1] 24)).alloc (.cells #[.int .i64 b0, .int .i64 b1] 24)).alloc (.cells #[.int .i64 p0, .int .i64 p1] 24)) at C0
  generalize ((w.alloc (.cells #[.int .i64 a0, .int .i64 a1] 24)).alloc (.cells #[.int .i64 b0, .int .i64 b1] 24)).alloc (.cells #[.int .i64 p0, .int .i64 p1] 24) = w0 at *
  obtain ⟨⟨k0, k1, k2, k3, k4, k5⟩, -⟩ := C0.three
  go_wp2_with fail
  refine (passed_any a0 a1 b0 b1 p0 p1 _ _ _ _ C0.third).mono ?_
  rintro e w1 ⟨rfl, g⟩
  go_wp2_with fail
  go_ret
  exact ⟨rfl, (C0.later g).low⟩
theorem ray_is (a0 a1 b0 b1 p0 p1 s : Int) (h : rayOf a0 a1 b0 b1 p0 p1 = s) (w : World) :
    Calls Try.prog 20 #[.agg #[.int .i64 a0, .int .i64 a1], .agg #[.int .i64 b0, .int .i64 b1], .agg #[.int .i64 p0, .int .i64 p1]] w fun e w' => e = .returned (.int .i64 s) ∧ Below w.heap.size w w' := h ▸ ray_any a0 a1 b0 b1 p0 p1 w

end Go.Proofs.Ytmldgjhecoeldaa

namespace Go.Proofs.Ytmldgjhecoeldaa
open Go.RowKit Go.Lib

def rrayOf (a0 a1 b0 b1 p0 p1 : Int) : Int := if a1 ≤ p1 ∧ p1 < b1 ∧ sideOf a0 a1 b0 b1 p0 p1 < 0 then 1 else if b1 ≤ p1 ∧ p1 < a1 ∧ sideOf b0 b1 a0 a1 p0 p1 < 0 then -1 else 0
theorem rray_same (a0 a1 b0 b1 p0 p1 : Int) : rrayOf a0 a1 b0 b1 p0 p1 = rayOf a0 a1 b0 b1 p0 p1 := by
  unfold rrayOf rayOf upP
  simp only [Bool.and_eq_true, Bool.not_eq_true', decide_eq_true_eq, decide_eq_false_iff_not, Int.not_lt]

set_option maxRecDepth 100000 in
set_option maxHeartbeats 4000000 in
theorem rray_any (a0 a1 b0 b1 p0 p1 : Int) (w : World) :
    Calls Try.prog 21 #[.agg #[.int .i64 a0, .int .i64 a1], .agg #[.int .i64 b0, .int .i64 b1], .agg #[.int .i64 p0, .int .i64 p1]] w fun e w' => e = .returned (.int .i64 (rrayOf a0 a1 b0 b1 p0 p1)) ∧ Below w.heap.size w w' := by
  have C0 := has3 (w := w) [.int .i64 a0, .int .i64 a1] [.int .i64 b0, .int .i64 b1] [.int .i64 p0, .int .i64 p1] 24 24 24
  obtain ⟨s, hs⟩ : ∃ s, sideOf a0 a1 b0 b1 p0 p1 = s := ⟨_, rfl⟩
  obtain ⟨t, ht⟩ : ∃ t, sideOf b0 b1 a0 a1 p0 p1 = t := ⟨_, rfl⟩
  by_cases h1 : a1 ≤ p1
  · skip
    by_cases h2 : p1 < b1
    · skip
      by_cases h3 : s < 0
      · skip
        have HV := Lib.hid (show 1 = rrayOf a0 a1 b0 b1 p0 p1 by unfold rrayOf; rw [hs, ht]; rw [if_pos (by omega)])
        have HS := Lib.hid hs
        have HT := Lib.hid ht
        clear hs ht
        obtain ⟨⟨k0, k1, k2, k3, k4, k5⟩, -⟩ := C0.three
        go_enter Try.func21, Try.ntmps21
        go_wp2_with fail
        try (change Has w _ (((w.alloc (.cells #[.int .i64 a0, .int .i64 a1] 24)).alloc (.cells #[.int .i64 b0, .int .i64 b1] 24)).alloc (.cells #[.int .i64 p0, .int .i64 p1] 24)) at C0; generalize ((w.alloc (.cells #[.int .i64 a0, .int .i64 a1] 24)).alloc (.cells #[.int .i64 b0, .int .i64 b1] 24)).alloc (.cells #[.int .i64 p0, .int .i64 p1] 24) = w0 at *)
        refine (Has.call C0 (rside_is a0 a1 b0 b1 p0 p1 s HS.out _)).mono ?_
        rintro e w1 ⟨rfl, C1⟩
        clear k0 k1 k2 k3 k4 k5
        obtain ⟨⟨k0, k1, k2, k3, k4, k5⟩, -⟩ := C1.three
        go_wp2_with fail
        go_ret
        exact ⟨ret_i HV.out, C1.low⟩
      · skip
        have g1 : ¬ b1 ≤ p1 := by omega
        have HV := Lib.hid (show 0 = rrayOf a0 a1 b0 b1 p0 p1 by unfold rrayOf; rw [hs, ht]; rw [if_neg (by omega), if_neg (by omega)])
        have HS := Lib.hid hs
        have HT := Lib.hid ht
        clear hs ht
        obtain ⟨⟨k0, k1, k2, k3, k4, k5⟩, -⟩ := C0.three
        go_enter Try.func21, Try.ntmps21
        go_wp2_with fail
        try (change Has w _ (((w.alloc (.cells #[.int .i64 a0, .int .i64 a1] 24)).alloc (.cells #[.int .i64 b0, .int .i64 b1] 24)).alloc (.cells #[.int .i64 p0, .int .i64 p1] 24)) at C0; generalize ((w.alloc (.cells #[.int .i64 a0, .int .i64 a1] 24)).alloc (.cells #[.int .i64 b0, .int .i64 b1] 24)).alloc (.cells #[.int .i64 p0, .int .i64 p1] 24) = w0 at *)
        refine (Has.call C0 (rside_is a0 a1 b0 b1 p0 p1 s HS.out _)).mono ?_
        rintro e w1 ⟨rfl, C1⟩
        clear k0 k1 k2 k3 k4 k5
        obtain ⟨⟨k0, k1, k2, k3, k4, k5⟩, -⟩ := C1.three
        go_wp2_with fail
        go_ret
        exact ⟨ret_i HV.out, C1.low⟩
    · skip
      have g1 : b1 ≤ p1 := by omega
      have g2 : ¬ p1 < a1 := by omega
      have HV := Lib.hid (show 0 = rrayOf a0 a1 b0 b1 p0 p1 by unfold rrayOf; rw [hs, ht]; rw [if_neg (by omega), if_neg (by omega)])
      have HS := Lib.hid hs
      have HT := Lib.hid ht
      clear hs ht
      obtain ⟨⟨k0, k1, k2, k3, k4, k5⟩, -⟩ := C0.three
      go_enter Try.func21, Try.ntmps21
      go_wp2_with fail
      try (change Has w _ (((w.alloc (.cells #[.int .i64 a0, .int .i64 a1] 24)).alloc (.cells #[.int .i64 b0, .int .i64 b1] 24)).alloc (.cells #[.int .i64 p0, .int .i64 p1] 24)) at C0; generalize ((w.alloc (.cells #[.int .i64 a0, .int .i64 a1] 24)).alloc (.cells #[.int .i64 b0, .int .i64 b1] 24)).alloc (.cells #[.int .i64 p0, .int .i64 p1] 24) = w0 at *)
      go_ret
      exact ⟨ret_i HV.out, C0.low⟩
  · skip
    have g2 : p1 < a1 := by omega
    by_cases g1 : b1 ≤ p1
    · skip
      by_cases g3 : t < 0
      · skip
        have HV := Lib.hid (show -1 = rrayOf a0 a1 b0 b1 p0 p1 by unfold rrayOf; rw [hs, ht]; rw [if_neg (by omega), if_pos (by omega)])
        have HS := Lib.hid hs
        have HT := Lib.hid ht
        clear hs ht
        obtain ⟨⟨k0, k1, k2, k3, k4, k5⟩, -⟩ := C0.three
        go_enter Try.func21, Try.ntmps21
        go_wp2_with fail
        try (change Has w _ (((w.alloc (.cells #[.int .i64 a0, .int .i64 a1] 24)).alloc (.cells #[.int .i64 b0, .int .i64 b1] 24)).alloc (.cells #[.int .i64 p0, .int .i64 p1] 24)) at C0; generalize ((w.alloc (.cells #[.int .i64 a0, .int .i64 a1] 24)).alloc (.cells #[.int .i64 b0, .int .i64 b1] 24)).alloc (.cells #[.int .i64 p0, .int .i64 p1] 24) = w0 at *)
        refine (Has.call C0 (rside_is b0 b1 a0 a1 p0 p1 t HT.out _)).mono ?_
        rintro e w1 ⟨rfl, C1⟩
        clear k0 k1 k2 k3 k4 k5
        obtain ⟨⟨k0, k1, k2, k3, k4, k5⟩, -⟩ := C1.three
        go_wp2_with fail
        go_ret
        exact ⟨ret_i HV.out, C1.low⟩
      · skip
        have HV := Lib.hid (show 0 = rrayOf a0 a1 b0 b1 p0 p1 by unfold rrayOf; rw [hs, ht]; rw [if_neg (by omega), if_neg (by omega)])
        have HS := Lib.hid hs
        have HT := Lib.hid ht
        clear hs ht
        obtain ⟨⟨k0, k1, k2, k3, k4, k5⟩, -⟩ := C0.three
        go_enter Try.func21, Try.ntmps21
        go_wp2_with fail
        try (change Has w _ (((w.alloc (.cells #[.int .i64 a0, .int .i64 a1] 24)).alloc (.cells #[.int .i64 b0, .int .i64 b1] 24)).alloc (.cells #[.int .i64 p0, .int .i64 p1] 24)) at C0; generalize ((w.alloc (.cells #[.int .i64 a0, .int .i64 a1] 24)).alloc (.cells #[.int .i64 b0, .int .i64 b1] 24)).alloc (.cells #[.int .i64 p0, .int .i64 p1] 24) = w0 at *)
        refine (Has.call C0 (rside_is b0 b1 a0 a1 p0 p1 t HT.out _)).mono ?_
        rintro e w1 ⟨rfl, C1⟩
        clear k0 k1 k2 k3 k4 k5
        obtain ⟨⟨k0, k1, k2, k3, k4, k5⟩, -⟩ := C1.three
        go_wp2_with fail
        go_ret
        exact ⟨ret_i HV.out, C1.low⟩
    · skip
      have HV := Lib.hid (show 0 = rrayOf a0 a1 b0 b1 p0 p1 by unfold rrayOf; rw [hs, ht]; rw [if_neg (by omega), if_neg (by omega)])
      have HS := Lib.hid hs
      have HT := Lib.hid ht
      clear hs ht
      obtain ⟨⟨k0, k1, k2, k3, k4, k5⟩, -⟩ := C0.three
      go_enter Try.func21, Try.ntmps21
      go_wp2_with fail
      try (change Has w _ (((w.alloc (.cells #[.int .i64 a0, .int .i64 a1] 24)).alloc (.cells #[.int .i64 b0, .int .i64 b1] 24)).alloc (.cells #[.int .i64 p0, .int .i64 p1] 24)) at C0; generalize ((w.alloc (.cells #[.int .i64 a0, .int .i64 a1] 24)).alloc (.cells #[.int .i64 b0, .int .i64 b1] 24)).alloc (.cells #[.int .i64 p0, .int .i64 p1] 24) = w0 at *)
      go_ret
      exact ⟨ret_i HV.out, C0.low⟩
theorem rray_is (a0 a1 b0 b1 p0 p1 s : Int) (h : rayOf a0 a1 b0 b1 p0 p1 = s) (w : World) :
    Calls Try.prog 21 #[.agg #[.int .i64 a0, .int .i64 a1], .agg #[.int .i64 b0, .int .i64 b1], .agg #[.int .i64 p0, .int .i64 p1]] w fun e w' => e = .returned (.int .i64 s) ∧ Below w.heap.size w w' := by
  rw [← h, ← rray_same]; exact rray_any a0 a1 b0 b1 p0 p1 w

end Go.Proofs.Ytmldgjhecoeldaa
