/- The functions of exact and of its reference over the small ones: Cmp, Gcd, and the reference's Sign2 and Cmp. -/
import Derived.Test.YtfcoblapbcdaiaaA1
namespace Go.Proofs.Ytfcoblapbcdaiaa
open Go.RowKit Go.Lib

/-- What Cmp answers of two ratios. -/
def cmpOf (n d m e : Int) : Int := if d < 1 ∨ e < 1 then 0 else (n * e - m * d).sign

theorem cmpOf_no1 {n d m e : Int} (h : d < 1) : 0 = cmpOf n d m e := by unfold cmpOf; rw [if_pos (Or.inl h)]
theorem cmpOf_no2 {n d m e : Int} (h : e < 1) : 0 = cmpOf n d m e := by unfold cmpOf; rw [if_pos (Or.inr h)]
theorem cmpOf_yes {n d m e : Int} (h : 1 ≤ d) (k : 1 ≤ e) : (n * e - m * d).sign = cmpOf n d m e := by unfold cmpOf; rw [if_neg (by omega)]

set_option maxHeartbeats 400000 in
theorem cmp_any (n d m e : Int) (w : World) (ha : -9223372036854775808 ≤ n ∧ n ≤ 9223372036854775807) (hb : -9223372036854775808 ≤ d ∧ d ≤ 9223372036854775807) (hc : -9223372036854775808 ≤ m ∧ m ≤ 9223372036854775807) (hd : -9223372036854775808 ≤ e ∧ e ≤ 9223372036854775807) :
    Calls Try.prog 24 #[.agg #[.int .i64 n, .int .i64 d], .agg #[.int .i64 m, .int .i64 e]] w fun en w' => en = .returned (.int .i64 (cmpOf n d m e)) ∧ Below w.heap.size w w' := by
  by_cases h1 : 1 ≤ d
  · by_cases h2 : 1 ≤ e
    · go_enter Try.func24, Try.ntmps24
      go_wp2_with fail
      refine (right_any _ _ _).mono ?_
      rintro en w1 ⟨rfl, hb1⟩
      have t1 := ((Cells.made w [.int .i64 n, .int .i64 d] 36).alloc (by simp) (.cells #[.int .i64 m, .int .i64 e] 36)).later hb1 (by simp; omega)
      have t2 := (Cells.made (w.alloc (.cells #[.int .i64 n, .int .i64 d] 36)) [.int .i64 m, .int .i64 e] 36).later hb1 (by simp)
      rw [size_alloc] at t2
      have s1 : w.heap.size + 2 ≤ w1.heap.size := by have := hb1.size; simp at this; omega
      have c1 := (t1.get 0 rfl).1
      have c2 := (t1.get 1 rfl).1
      have c3 := (t2.get 0 rfl).1
      have c4 := (t2.get 1 rfl).1
      go_wp2_with fail
      refine (right_any _ _ _).mono ?_
      rintro en w2 ⟨rfl, hb2⟩
      have t3 := t1.later hb2 (by omega)
      have t4 := t2.later hb2 (by omega)
      have c5 := (t3.get 0 rfl).1
      have c6 := (t3.get 1 rfl).1
      have c7 := (t4.get 0 rfl).1
      have c8 := (t4.get 1 rfl).1
      have s2 : w.heap.size + 2 ≤ w2.heap.size := by have := hb2.size; omega
      go_wp2_with fail
      refine (sign2_any _ _ _ _ _ ha hd hc hb).mono ?_
      rintro en w3 ⟨rfl, hb3⟩
      go_wp2_with fail
      go_ret
      exact ⟨ret_i (cmpOf_yes h1 h2), ((((Below.refl _ _).alloc (Nat.le_refl _) _).alloc (by simp) _).trans (hb1.mono (by simp; omega))).trans ((hb2.mono (by omega)).trans (hb3.mono (by omega)))⟩
    · have h3 : decide (1 ≤ e) = false := by simpa using h2
      go_enter Try.func24, Try.ntmps24
      go_wp2_with fail
      refine (right_any _ _ _).mono ?_
      rintro en w1 ⟨rfl, hb1⟩
      have t2 := (Cells.made (w.alloc (.cells #[.int .i64 n, .int .i64 d] 36)) [.int .i64 m, .int .i64 e] 36).later hb1 (by simp)
      rw [size_alloc] at t2
      have s1 : w.heap.size + 2 ≤ w1.heap.size := by have := hb1.size; simp at this; omega
      have c3 := (t2.get 0 rfl).1
      have c4 := (t2.get 1 rfl).1
      go_wp2_with fail
      refine (right_any _ _ _).mono ?_
      rintro en w2 ⟨rfl, hb2⟩
      go_wp2_with fail
      go_ret
      exact ⟨ret_i (cmpOf_no2 (by omega)), ((((Below.refl _ _).alloc (Nat.le_refl _) _).alloc (by simp) _).trans (hb1.mono (by simp; omega))).trans (hb2.mono (by omega))⟩
  · have h3 : decide (1 ≤ d) = false := by simpa using h1
    go_enter Try.func24, Try.ntmps24
    go_wp2_with fail
    refine (right_any _ _ _).mono ?_
    rintro en w1 ⟨rfl, hb1⟩
    go_wp2_with fail
    go_ret
    exact ⟨ret_i (cmpOf_no1 (by omega)), (((Below.refl _ _).alloc (Nat.le_refl _) _).alloc (by simp) _).trans (hb1.mono (by simp; omega))⟩

theorem sign_is (x : Int) : (x < 0 ∧ x.sign = -1) ∨ (x = 0 ∧ x.sign = 0) ∨ (0 < x ∧ x.sign = 1) := by
  rcases Int.lt_trichotomy x 0 with h | h | h
  · exact Or.inl ⟨h, Int.sign_eq_neg_one_of_neg h⟩
  · exact Or.inr (Or.inl ⟨h, by rw [h]; rfl⟩)
  · exact Or.inr (Or.inr ⟨h, Int.sign_eq_one_of_pos h⟩)

/-- The signs of two numbers and their sizes say the sign of the difference. -/
theorem signs (P Q : Int) :
    (P.sign ≠ Q.sign → (P.sign - Q.sign).sign = (P - Q).sign) ∧
    (P.sign = Q.sign → (Q.natAbs < P.natAbs → P.sign = (P - Q).sign) ∧ (P.natAbs < Q.natAbs → -P.sign = (P - Q).sign) ∧ (P.natAbs = Q.natAbs → 0 = (P - Q).sign)) := by
  have h1 := sign_is P
  have h2 := sign_is Q
  have h3 := sign_is (P - Q)
  have h4 := sign_is (P.sign - Q.sign)
  refine ⟨fun _ => ?_, fun _ => ⟨fun _ => ?_, fun _ => ?_, fun _ => ?_⟩⟩ <;> omega

theorem sign_bd (a : Int) : -1 ≤ a.sign ∧ a.sign ≤ 1 := by have := sign_is a; omega

/-- Two products without signs, in words of 64 bits. -/
theorem hilo (X Y : Nat) (s ans : Int) (H : (Y < X → s = ans) ∧ (X < Y → -s = ans) ∧ (X = Y → 0 = ans)) :
    (((Y / 18446744073709551616 : Nat) : Int) < ((X / 18446744073709551616 : Nat) : Int) → s = ans) ∧ (((X / 18446744073709551616 : Nat) : Int) < ((Y / 18446744073709551616 : Nat) : Int) → -s = ans) ∧
    (((X / 18446744073709551616 : Nat) : Int) = ((Y / 18446744073709551616 : Nat) : Int) → (((Y % 18446744073709551616 : Nat) : Int) < ((X % 18446744073709551616 : Nat) : Int) → s = ans) ∧ (((X % 18446744073709551616 : Nat) : Int) < ((Y % 18446744073709551616 : Nat) : Int) → -s = ans) ∧ (((X % 18446744073709551616 : Nat) : Int) = ((Y % 18446744073709551616 : Nat) : Int) → 0 = ans)) := by
  refine ⟨fun h => H.1 ?_, fun h => H.2.1 ?_, fun h => ⟨fun k => H.1 ?_, fun k => H.2.1 ?_, fun k => H.2.2 ?_⟩⟩ <;> omega

/-- What Gcd answers. -/
def gcdOf (a b : Int) : Int := if 9223372036854775807 < ((Int.gcd a b : Nat) : Int) then 1 else (Int.gcd a b : Nat)
theorem gcdOf_big {a b : Int} {g : Nat} (h : g = Int.gcd a b) (k : 9223372036854775807 < (g : Int)) : 1 = gcdOf a b := by subst h; unfold gcdOf; rw [if_pos k]
theorem gcdOf_is {a b : Int} {g : Nat} (h : g = Int.gcd a b) (k : (g : Int) ≤ 9223372036854775807) : (g : Int) = gcdOf a b := by subst h; unfold gcdOf; rw [if_neg (by omega)]

/-- A world that has answered some questions more, and is otherwise as it was. -/
def Drew (w w' : World) : Prop := ∃ m, w' = w.drewN m
theorem Drew.more {w w' : World} (h : Drew w w') (n : Nat) : Drew w (w'.drewN n) := by
  obtain ⟨m, rfl⟩ := h
  exact ⟨m + n, by rw [World.drewN_drewN]⟩

set_option maxHeartbeats 400000 in
theorem gcd_q (a b : Int) (w : World) (ha : -9223372036854775808 ≤ a ∧ a ≤ 9223372036854775807) (hb : -9223372036854775808 ≤ b ∧ b ≤ 9223372036854775807) :
    Calls Try.prog 23 #[.int .i64 a, .int .i64 b] w fun e w' => e = .returned (.int .i64 (gcdOf a b)) ∧ ∃ m, w' = w.drewN m := by
  go_enter Try.func23, Try.ntmps23
  go_wp2_with fail
  refine (magnitude_any a _ ha.1 ha.2).mono ?_
  rintro e w1 ⟨rfl, rfl⟩
  go_wp2_with fail
  refine (magnitude_any b _ hb.1 hb.2).mono ?_
  rintro e w1 ⟨rfl, rfl⟩
  go_wp2_with fail
  go_loopw [5, 6] (fun x y wr => ∃ p q : Nat, x = .int .u64 p ∧ y = .int .u64 q ∧ (p : Int) ≤ 9223372036854775808 ∧ (q : Int) ≤ 9223372036854775808 ∧ Hid (Nat.gcd p q = Int.gcd a b) ∧ Drew w wr) (fun _ y _ => (intOf y).toNat)
  case atStart => exact ⟨_, _, rfl, rfl, by omega, by omega, rfl, ⟨0, rfl⟩⟩
  case round =>
    obtain ⟨p, q, rfl, rfl, hp, hq, H, hB⟩ := hrel
    by_cases hz : q = 0
    · subst hz
      have H2 := Lib.hid (show p = Int.gcd a b by rw [← H.out, Nat.gcd_zero_right])
      clear H
      by_cases hbig : 9223372036854775807 < (p : Int)
      · go_wp2_with fail
        go_ret
        exact ⟨ret_i (gcdOf_big H2.out hbig), hB⟩
      · go_wp2_with fail
        go_ret
        exact ⟨ret_i (gcdOf_is H2.out (by omega)), hB⟩
    · have H2 := Lib.hid (show Nat.gcd q (p % q) = Int.gcd a b by rw [← H.out, Nat.gcd_comm p q, Nat.gcd_rec q p, Nat.gcd_comm])
      have hlt : p % q < q := Nat.mod_lt _ (by omega)
      clear H
      have hz1 : ((q : Int) != 0) = true := by rw [bne_iff_ne]; omega
      go_wp2_with fail
      go_quiet (fail)
      go_wp2_with fail
      exact ⟨⟨q, p % q, rfl, by simp, hq, by omega, H2.out, hB.more nq⟩, by simp [intOf]; omega⟩

theorem gcd_any (a b : Int) (w : World) (ha : -9223372036854775808 ≤ a ∧ a ≤ 9223372036854775807) (hb : -9223372036854775808 ≤ b ∧ b ≤ 9223372036854775807) :
    Calls Try.prog 23 #[.int .i64 a, .int .i64 b] w fun e w' => e = .returned (.int .i64 (gcdOf a b)) ∧ Below w.heap.size w w' :=
  (gcd_q a b w ha hb).mono fun _ _ ⟨he, m, hm⟩ => ⟨he, hm ▸ below_drewN (Below.refl _ _) m⟩

set_option maxHeartbeats 400000 in
theorem rgcd_q (a b : Int) (w : World) (ha : -9223372036854775808 ≤ a ∧ a ≤ 9223372036854775807) (hb : -9223372036854775808 ≤ b ∧ b ≤ 9223372036854775807) :
    Calls Try.prog 38 #[.int .i64 a, .int .i64 b] w fun e w' => e = .returned (.int .i64 (gcdOf a b)) ∧ ∃ m, w' = w.drewN m := by
  go_enter Try.func38, Try.ntmps38
  go_wp2_with fail
  refine (size_any a _ ha.1 ha.2).mono ?_
  rintro e w1 ⟨rfl, rfl⟩
  go_wp2_with fail
  refine (size_any b _ hb.1 hb.2).mono ?_
  rintro e w1 ⟨rfl, rfl⟩
  go_wp2_with fail
  go_loopw [5, 6] (fun x y wr => ∃ p q : Nat, x = .int .u64 p ∧ y = .int .u64 q ∧ (p : Int) ≤ 9223372036854775808 ∧ (q : Int) ≤ 9223372036854775808 ∧ Hid (Nat.gcd p q = Int.gcd a b) ∧ Drew w wr) (fun _ y _ => (intOf y).toNat)
  case atStart => exact ⟨_, _, rfl, rfl, by omega, by omega, rfl, ⟨0, rfl⟩⟩
  case round =>
    obtain ⟨p, q, rfl, rfl, hp, hq, H, hB⟩ := hrel
    by_cases hz : q = 0
    · subst hz
      have H2 := Lib.hid (show p = Int.gcd a b by rw [← H.out, Nat.gcd_zero_right])
      clear H
      by_cases hbig : 9223372036854775807 < (p : Int)
      · go_wp2_with fail
        go_ret
        exact ⟨ret_i (gcdOf_big H2.out hbig), hB⟩
      · go_wp2_with fail
        go_ret
        exact ⟨ret_i (gcdOf_is H2.out (by omega)), hB⟩
    · have H2 := Lib.hid (show Nat.gcd q (p % q) = Int.gcd a b by rw [← H.out, Nat.gcd_comm p q, Nat.gcd_rec q p, Nat.gcd_comm])
      have hlt : p % q < q := Nat.mod_lt _ (by omega)
      clear H
      have hz1 : ((q : Int) != 0) = true := by rw [bne_iff_ne]; omega
      go_wp2_with fail
      go_quiet (fail)
      go_wp2_with fail
      exact ⟨⟨q, p % q, rfl, by simp, hq, by omega, H2.out, hB.more nq⟩, by simp [intOf]; omega⟩

theorem rgcd_any (a b : Int) (w : World) (ha : -9223372036854775808 ≤ a ∧ a ≤ 9223372036854775807) (hb : -9223372036854775808 ≤ b ∧ b ≤ 9223372036854775807) :
    Calls Try.prog 38 #[.int .i64 a, .int .i64 b] w fun e w' => e = .returned (.int .i64 (gcdOf a b)) ∧ Below w.heap.size w w' :=
  (rgcd_q a b w ha hb).mono fun _ _ ⟨he, m, hm⟩ => ⟨he, hm ▸ below_drewN (Below.refl _ _) m⟩

theorem gcdOf_bd (n d : Int) (h : 1 ≤ d ∧ d ≤ 9223372036854775807) : 1 ≤ gcdOf n d ∧ gcdOf n d ≤ 9223372036854775807 ∧ gcdOf n d = Int.gcd n d := by
  have h1 : Int.gcd n d ∣ d.natAbs := Nat.gcd_dvd_right _ _
  have h2 := Nat.le_of_dvd (by omega) h1
  have h3 : 0 < Int.gcd n d := Nat.gcd_pos_of_pos_right _ (by omega)
  unfold gcdOf
  rw [if_neg (by omega)]
  omega

theorem ret_low {a b c d : Int} (h : a = c) (k : b = d) (t : Bool) : Ending.returned (.tuple #[.agg #[.int .i64 a, .int .i64 b], .bool t]) = .returned (.tuple #[.agg #[.int .i64 c, .int .i64 d], .bool t]) := by rw [h, k]

set_option maxHeartbeats 400000 in
theorem lowest_no (n d : Int) (w : World) (h : d < 1) :
    Calls Try.prog 29 #[.agg #[.int .i64 n, .int .i64 d]] w fun en w' => en = .returned (.tuple #[.agg #[.int .i64 0, .int .i64 0], .bool false]) ∧ Below w.heap.size w w' := by
  have h3 : decide (1 ≤ d) = false := by simp; omega
  go_enter Try.func29, Try.ntmps29
  go_wp2_with fail
  refine (right_any _ _ _).mono ?_
  rintro en w1 ⟨rfl, hb1⟩
  have hB : Below w.heap.size w w1 := (((Below.refl _ _).alloc (Nat.le_refl _) _).alloc (by simp) _).trans (hb1.mono (by simp; omega))
  have t := (Cells.made (w.alloc (.cells #[.int .i64 n, .int .i64 d] 36)) [.int .i64 0, .int .i64 0] 36).later hb1 (by simp)
  rw [size_alloc] at t
  obtain ⟨c1, f1⟩ := t.get 0 rfl
  obtain ⟨c2, f2⟩ := t.get 1 rfl
  go_wp2_with fail
  have t3 := (t.set 0 (by simp) (.int .i64 0)).set 1 (by simp) (.int .i64 0)
  have hB3 := (hB.setCell (p := ⟨w.heap.size + 1, 0, none⟩) (by simp) (.int .i64 0)).setCell (p := ⟨w.heap.size + 1, 1, none⟩) (by simp) (.int .i64 0)
  generalize (w1.setCell ⟨w.heap.size + 1, 0, none⟩ (.int .i64 0)).setCell ⟨w.heap.size + 1, 1, none⟩ (.int .i64 0) = w3 at *
  have d1 := (t3.get 0 rfl).1
  have d2 := (t3.get 1 rfl).1
  exact bodyPost_ret (v := .tuple #[.agg #[.int .i64 0, .int .i64 0], .bool false]) (by simp [results, Try.results29, go_sem, d1, d2]) rfl ⟨rfl, hB3⟩

set_option maxHeartbeats 400000 in
theorem lowest_yes (n d : Int) (w : World) (ha : -9223372036854775808 ≤ n ∧ n ≤ 9223372036854775807) (hb : 1 ≤ d ∧ d ≤ 9223372036854775807) :
    Calls Try.prog 29 #[.agg #[.int .i64 n, .int .i64 d]] w fun en w' => en = .returned (.tuple #[.agg #[.int .i64 (n.tdiv (gcdOf n d)), .int .i64 (d / gcdOf n d)], .bool true]) ∧ Below w.heap.size w w' := by
  obtain ⟨g1, g2, g3⟩ := gcdOf_bd n d hb
  clear g3
  generalize hG : gcdOf n d = G at *
  have HG := Lib.hid hG
  clear hG
  go_enter Try.func29, Try.ntmps29
  go_wp2_with fail
  refine (right_any _ _ _).mono ?_
  rintro en w1 ⟨rfl, hb1⟩
  have hB : Below w.heap.size w w1 := (((Below.refl _ _).alloc (Nat.le_refl _) _).alloc (by simp) _).trans (hb1.mono (by simp; omega))
  have s1 : w.heap.size + 2 ≤ w1.heap.size := by have := hb1.size; simp at this; omega
  have t := (Cells.made (w.alloc (.cells #[.int .i64 n, .int .i64 d] 36)) [.int .i64 0, .int .i64 0] 36).later hb1 (by simp)
  rw [size_alloc] at t
  have u := ((Cells.made w [.int .i64 n, .int .i64 d] 36).alloc (by simp) (.cells #[.int .i64 0, .int .i64 0] 36)).later hb1 (by simp; omega)
  obtain ⟨c1, f1⟩ := t.get 0 rfl
  obtain ⟨c2, f2⟩ := t.get 1 rfl
  have c3 := (u.get 0 rfl).1
  have c4 := (u.get 1 rfl).1
  go_wp2_with fail
  refine (gcd_any _ _ _ ha (by omega)).mono ?_
  rintro en w2 ⟨rfl, hb2⟩
  have t2 := t.later hb2 (by omega)
  have u2 := u.later hb2 (by omega)
  have hB2 := hB.trans (hb2.mono (by omega))
  obtain ⟨c5, f5⟩ := t2.get 0 rfl
  obtain ⟨c6, f6⟩ := t2.get 1 rfl
  have c7 := (u2.get 0 rfl).1
  have c8 := (u2.get 1 rfl).1
  rw [HG.out]
  go_wp2_with fail
  go_region
  have t3 := ((t2.set 0 (by simp) (.int .i64 (n.tdiv G))).set 1 (by simp) (.int .i64 (d / G))).drew
  have hB3 := ((hB2.setCell (p := ⟨w.heap.size + 1, 0, none⟩) (by simp) (.int .i64 (n.tdiv G))).setCell (p := ⟨w.heap.size + 1, 1, none⟩) (by simp) (.int .i64 (d / G))).drew
  generalize ((w2.setCell ⟨w.heap.size + 1, 0, none⟩ (.int .i64 (n.tdiv G))).setCell ⟨w.heap.size + 1, 1, none⟩ (.int .i64 (d / G))).drew = w3 at *
  have d1 := (t3.get 0 rfl).1
  have d2 := (t3.get 1 rfl).1
  go_wp2_with fail
  exact bodyPost_ret (v := .tuple #[.agg #[.int .i64 (n.tdiv G), .int .i64 (d / G)], .bool true]) (by simp [results, Try.results29, go_sem, d1, d2]) rfl ⟨rfl, hB3⟩

set_option maxHeartbeats 400000 in
theorem rlowest_no (n d : Int) (w : World) (h : d < 1) :
    Calls Try.prog 31 #[.agg #[.int .i64 n, .int .i64 d]] w fun en w' => en = .returned (.tuple #[.agg #[.int .i64 0, .int .i64 0], .bool false]) ∧ Below w.heap.size w w' := by
  go_enter Try.func31, Try.ntmps31
  go_wp2_with fail
  go_returns
  exact ⟨rfl, by go_grown⟩

set_option maxHeartbeats 400000 in
theorem rlowest_yes (n d : Int) (w : World) (ha : -9223372036854775808 ≤ n ∧ n ≤ 9223372036854775807) (hb : 1 ≤ d ∧ d ≤ 9223372036854775807) :
    Calls Try.prog 31 #[.agg #[.int .i64 n, .int .i64 d]] w fun en w' => en = .returned (.tuple #[.agg #[.int .i64 (n.tdiv (gcdOf n d)), .int .i64 (d / gcdOf n d)], .bool true]) ∧ Below w.heap.size w w' := by
  obtain ⟨g1, g2, g3⟩ := gcdOf_bd n d hb
  clear g3
  generalize hG : gcdOf n d = G at *
  have HG := Lib.hid hG
  clear hG
  go_enter Try.func31, Try.ntmps31
  go_wp2_with fail
  refine (rgcd_any _ _ _ ha (by omega)).mono ?_
  rintro en w2 ⟨rfl, hb2⟩
  have hB2 : Below w.heap.size w w2 := (((Below.refl _ _).alloc (Nat.le_refl _) _).alloc (by simp) _).trans (hb2.mono (by simp; omega))
  have t2 := (Cells.made (w.alloc (.cells #[.int .i64 n, .int .i64 d] 36)) [.int .i64 0, .int .i64 0] 36).later hb2 (by simp)
  rw [size_alloc] at t2
  have u2 := ((Cells.made w [.int .i64 n, .int .i64 d] 36).alloc (by simp) (.cells #[.int .i64 0, .int .i64 0] 36)).later hb2 (by simp; omega)
  obtain ⟨c5, f5⟩ := t2.get 0 rfl
  obtain ⟨c6, f6⟩ := t2.get 1 rfl
  have c7 := (u2.get 0 rfl).1
  have c8 := (u2.get 1 rfl).1
  rw [HG.out]
  go_wp2_with fail
  go_region
  have t3 := ((t2.set 0 (by simp) (.int .i64 (n.tdiv G))).set 1 (by simp) (.int .i64 (d / G))).drew
  have hB3 := ((hB2.setCell (p := ⟨w.heap.size + 1, 0, none⟩) (by simp) (.int .i64 (n.tdiv G))).setCell (p := ⟨w.heap.size + 1, 1, none⟩) (by simp) (.int .i64 (d / G))).drew
  generalize ((w2.setCell ⟨w.heap.size + 1, 0, none⟩ (.int .i64 (n.tdiv G))).setCell ⟨w.heap.size + 1, 1, none⟩ (.int .i64 (d / G))).drew = w3 at *
  have d1 := (t3.get 0 rfl).1
  have d2 := (t3.get 1 rfl).1
  go_wp2_with fail
  exact bodyPost_ret (v := .tuple #[.agg #[.int .i64 (n.tdiv G), .int .i64 (d / G)], .bool true]) (by simp [results, Try.results31, go_sem, d1, d2]) rfl ⟨rfl, hB3⟩

/-- What Lowest answers: a ratio, and whether there is one. -/
def lowN (n d : Int) : Int := if d < 1 then 0 else n.tdiv (gcdOf n d)
def lowD (n d : Int) : Int := if d < 1 then 0 else d / gcdOf n d
def lowIs (d : Int) : Bool := decide (1 ≤ d)

theorem low_no {n d : Int} (h : d < 1) : lowN n d = 0 ∧ lowD n d = 0 ∧ lowIs d = false := by unfold lowN lowD lowIs; simp only [if_pos h]; simp; omega
theorem low_yes {n d : Int} (h : 1 ≤ d) : lowN n d = n.tdiv (gcdOf n d) ∧ lowD n d = d / gcdOf n d ∧ lowIs d = true := by unfold lowN lowD lowIs; simp only [if_neg (show ¬ d < 1 by omega)]; simp; omega

theorem lowest_all (n d : Int) (w : World) (ha : -9223372036854775808 ≤ n ∧ n ≤ 9223372036854775807) (hb : -9223372036854775808 ≤ d ∧ d ≤ 9223372036854775807) :
    Calls Try.prog 29 #[.agg #[.int .i64 n, .int .i64 d]] w fun en w' => en = .returned (.tuple #[.agg #[.int .i64 (lowN n d), .int .i64 (lowD n d)], .bool (lowIs d)]) ∧ Below w.heap.size w w' := by
  by_cases h : d < 1
  · obtain ⟨e1, e2, e3⟩ := low_no (n := n) h
    rw [e1, e2, e3]
    exact lowest_no n d w h
  · obtain ⟨e1, e2, e3⟩ := low_yes (n := n) (d := d) (by omega)
    rw [e1, e2, e3]
    exact lowest_yes n d w ha (by omega)

theorem rlowest_all (n d : Int) (w : World) (ha : -9223372036854775808 ≤ n ∧ n ≤ 9223372036854775807) (hb : -9223372036854775808 ≤ d ∧ d ≤ 9223372036854775807) :
    Calls Try.prog 31 #[.agg #[.int .i64 n, .int .i64 d]] w fun en w' => en = .returned (.tuple #[.agg #[.int .i64 (lowN n d), .int .i64 (lowD n d)], .bool (lowIs d)]) ∧ Below w.heap.size w w' := by
  by_cases h : d < 1
  · obtain ⟨e1, e2, e3⟩ := low_no (n := n) h
    rw [e1, e2, e3]
    exact rlowest_no n d w h
  · obtain ⟨e1, e2, e3⟩ := low_yes (n := n) (d := d) (by omega)
    rw [e1, e2, e3]
    exact rlowest_yes n d w ha (by omega)

end Go.Proofs.Ytfcoblapbcdaiaa
