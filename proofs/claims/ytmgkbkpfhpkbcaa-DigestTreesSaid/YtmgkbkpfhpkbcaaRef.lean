/- The reference's digests, and the two checks of marks. -/
import Derived.Test.YtmgkbkpfhpkbcaaHash
import Derived.Stop.BytesEq
namespace Go.Proofs.Ytmgkbkpfhpkbcaa
open Go.RowKit Go.Lib

theorem rstep_x (X : Nat) (c : UInt8) (h : X < 2147483647) : (wrap64 (wrap64 (48271 * (X : Int) + wrap64 (c.toNat : Int)) + 1)).tmod 2147483647 = ((stepX X c : Nat) : Int) := by
  have hc := c.toNat_lt
  rw [IntWalk.wrap64_in (c.toNat : Int) ⟨by omega, by omega⟩, IntWalk.wrap64_in (48271 * (X : Int) + (c.toNat : Int)) ⟨by omega, by omega⟩, IntWalk.wrap64_in _ ⟨by omega, by omega⟩, Int.tmod_eq_emod_of_nonneg (by omega)]
  unfold stepX
  omega
theorem rstep_y (X : Nat) (c : UInt8) (h : X < 2147483629) : (wrap64 (wrap64 (40692 * (X : Int) + wrap64 (c.toNat : Int)) + 1)).tmod 2147483629 = ((stepY X c : Nat) : Int) := by
  have hc := c.toNat_lt
  rw [IntWalk.wrap64_in (c.toNat : Int) ⟨by omega, by omega⟩, IntWalk.wrap64_in (40692 * (X : Int) + (c.toNat : Int)) ⟨by omega, by omega⟩, IntWalk.wrap64_in _ ⟨by omega, by omega⟩, Int.tmod_eq_emod_of_nonneg (by omega)]
  unfold stepY
  omega

attribute [local go_sem] str

set_option maxHeartbeats 1000000 in
theorem rof_any (s : List UInt8) (w : World) (h : s.length ≤ 1000000) :
    Calls Try.prog 13 #[str s] w fun e w' => e = .returned (str (dig s)) ∧ Grows w w' := by
  unfold str
  go_enter Try.func13, Try.ntmps13
  go_wp2_with fail
  go_loop [3, 4, 5] (fun x y i => ∃ k : Nat, k ≤ s.length ∧ i = .int .i64 k ∧ x = .int .i64 (dx (s.take k) : Nat) ∧ y = .int .i64 (dy (s.take k) : Nat)) (fun _ _ i => s.length - (RowKit.intOf i).toNat)
  case atStart => exact ⟨0, Nat.zero_le _, rfl, rfl, rfl⟩
  case round =>
    obtain ⟨k, hk, rfl, rfl, rfl⟩ := hrel
    have bx := dx_lt (s.take k)
    have by' := dy_lt (s.take k)
    by_cases hlt : k < s.length
    · have HX := Lib.hid (dx_take [] s k hlt)
      have HY := Lib.hid (dy_take [] s k hlt)
      rw [List.nil_append, List.nil_append] at HX HY
      have bc := s[k].toNat_lt
      generalize dx (s.take k) = X at *
      generalize dy (s.take k) = Y at *
      go_wp2_with fail
      go_round
      case rel =>
        exact ⟨k + 1, by omega, by go_num, i64v ((rstep_x X s[k] bx).trans (by rw [HX.out])), i64v ((rstep_y Y s[k] by').trans (by rw [HY.out]))⟩
      case measure => simp [RowKit.intOf]; omega
    · obtain rfl : k = s.length := by omega
      rw [List.take_length] at *
      clear hlt hk
      have hd := Lib.hid (show dig s = word (dx s) ++ word (dy s) from rfl)
      generalize dx s = X at *
      generalize dy s = Y at *
      go_wp2_with fail
      refine (bytes4_any X _ (by omega)).mono ?_
      rintro e w1 ⟨rfl, g1⟩
      go_wp2_with fail
      refine (bytes4_any Y _ (by omega)).mono ?_
      rintro e w2 ⟨rfl, g2⟩
      go_wp2_with fail
      go_ret
      exact ⟨by rw [ba_append, hd.out]; rfl, g1.then g2⟩

set_option maxHeartbeats 400000 in
theorem rleaf_any (s : List UInt8) (w : World) (h : s.length ≤ 100000) :
    Calls Try.prog 30 #[str s] w fun e w' => e = .returned (str (dig (3 :: s))) ∧ Grows w w' := by
  have HA := Lib.hid (ba_append [3] s)
  go_enter Try.func30, Try.ntmps30
  go_wp2_with fail
  rw [HA.out]
  refine (rof_any (3 :: s) _ (by simp; omega)).mono ?_
  rintro e w1 ⟨rfl, g1⟩
  go_wp2_with fail
  go_ret
  exact ⟨rfl, g1⟩

set_option maxHeartbeats 400000 in
theorem rchain_any (b s : List UInt8) (w : World) (hb : b.length ≤ 100000) (hs : s.length ≤ 100000) :
    Calls Try.prog 15 #[str b, str s] w fun e w' => e = .returned (str (dig (1 :: (word b.length ++ b ++ s)))) ∧ Grows w w' := by
  have hw : (word b.length).length = 4 := rfl
  go_enter Try.func15, Try.ntmps15
  go_wp2_with fail
  refine (bytes4_any b.length _ (by omega)).mono ?_
  rintro e w1 ⟨rfl, g1⟩
  have HA := Lib.hid (show ((⟨#[1]⟩ ++ ⟨(word b.length).toArray⟩ : ByteArray) ++ ⟨b.toArray⟩ : ByteArray) ++ ⟨s.toArray⟩ = ⟨(1 :: (word b.length ++ b ++ s)).toArray⟩ by
    rw [show (⟨#[1]⟩ : ByteArray) = ⟨[1].toArray⟩ from rfl, ba_append, ba_append, ba_append]; simp)
  go_wp2_with fail
  rw [HA.out]
  refine (rof_any _ _ (by simp [word]; omega)).mono ?_
  rintro e w2 ⟨rfl, g2⟩
  have g2 := g1.then g2
  clear g1
  go_wp2_with fail
  go_ret
  exact ⟨rfl, g2⟩

set_option maxHeartbeats 400000 in
theorem rmark_any (k m : List UInt8) (w : World) (hk : k.length ≤ 100000) (hm : m.length ≤ 100000) :
    Calls Try.prog 16 #[str k, str m] w fun e w' => e = .returned (str (dig (marked k m))) ∧ Grows w w' := by
  have hw : (word k.length).length = 4 := rfl
  go_enter Try.func16, Try.ntmps16
  go_wp2_with fail
  refine (bytes4_any k.length _ (by omega)).mono ?_
  rintro e w1 ⟨rfl, g1⟩
  have HA := Lib.hid (show (((⟨#[2]⟩ ++ ⟨(word k.length).toArray⟩ : ByteArray) ++ ⟨k.toArray⟩ : ByteArray) ++ ⟨m.toArray⟩ : ByteArray) ++ ⟨k.toArray⟩ = ⟨(marked k m).toArray⟩ by
    rw [show (⟨#[2]⟩ : ByteArray) = ⟨[2].toArray⟩ from rfl, ba_append, ba_append, ba_append, ba_append]; simp [marked])
  go_wp2_with fail
  rw [HA.out]
  refine (rof_any _ _ (by simp [word, marked]; omega)).mono ?_
  rintro e w2 ⟨rfl, g2⟩
  have g2 := g1.then g2
  clear g1
  go_wp2_with fail
  go_ret
  exact ⟨rfl, g2⟩

/-- Whether a mark is the mark. -/
def chk (k m x : List UInt8) : Bool := decide (k ≠ [] ∧ x = dig (marked k m))
theorem chk_nil (m x : List UInt8) : chk [] m x = false := by simp [chk]
theorem chk_cons (c : UInt8) (k m x : List UInt8) : chk (c :: k) m x = decide (x = dig (marked (c :: k) m)) := by simp [chk]
theorem ret_b {a b : Bool} (h : a = b) : Ending.returned (.bool a) = .returned (.bool b) := by rw [h]
theorem eq_lists (a b : List UInt8) : (a == b) = decide (a = b) := by
  by_cases h : a = b <;> simp [h]

set_option maxHeartbeats 400000 in
theorem rcheck_any (k m x : List UInt8) (w : World) (hk : k.length ≤ 100000) (hm : m.length ≤ 100000) :
    Calls Try.prog 19 #[str k, str m, str x] w fun e w' => e = .returned (.bool (chk k m x)) ∧ Grows w w' := by
  rcases k with _ | ⟨c, k⟩
  · rw [chk_nil]
    go_enter Try.func19, Try.ntmps19
    go_wp2_with fail
    go_ret
    exact ⟨rfl, Below.refl _ _⟩
  · rw [chk_cons]
    generalize hK : c :: k = K at *
    have h1 : K ≠ [] := by rw [← hK]; simp
    have h2 : K.isEmpty = false := by rw [← hK]; rfl
    clear hK
    go_enter Try.func19, Try.ntmps19
    go_wp2_with fail
    refine (rmark_any K m _ hk hm).mono ?_
    rintro e w1 ⟨rfl, g1⟩
    obtain ⟨D, hD⟩ : ∃ D, dig (marked K m) = D := ⟨_, rfl⟩
    rw [hD]
    have HD := Lib.hid hD
    clear hD
    go_wp2_with fail
    go_ret
    exact ⟨by rw [HD.out, ← eq_lists]; rfl, g1⟩

/-! ### digest.Check -/
theorem eql8 (s t : List UInt8) (hs : s.length = 8) (ht : t.length = 8) (w : World) : (binOp .eql 52 (agg8 s) (agg8 t)).run Try.prog w = .ok (.bool (s == t)) w :=
  run_eql_bytes (P := Try.prog) w 52 5 8 Try.underlying52 Try.underlying5 (fun w => by rfl) s t hs ht
theorem exec_eql8 {op : Oper} {a : Act} {w : World} {s t : List UInt8} (x y : Operand) (ho : op.op = .binOp .eql 52 x y 52) (hx : a.eval x = agg8 s) (hy : a.eval y = agg8 t) (hs : Hid (s.length = 8)) (ht : Hid (t.length = 8)) :
    (execOp a.eval op).run Try.prog w = .ok (.value (.bool (s == t))) w := by
  unfold execOp
  have hg : (eqGuard .eql 52 x y (agg8 s) (agg8 t)).run Try.prog w = .ok () w := by
    unfold eqGuard
    rfl
  simp only [ho, hx, hy, Sem.run_bind, Sem.run_pure, hg, Result.andThen_ok, eql8 s t hs.out ht.out w]

/-- What stays while a mark is compared. -/
structure HC (w : World) (b : Nat) (x : List UInt8) (W : World) : Prop where
  r : W.rangeAt b 0 (bc x)
  g : Grows w W
  lt : b < W.heap.size
theorem HC.later {w W W' : World} {b : Nat} {x : List UInt8} (h : HC w b x W) (g : Grows W W') : HC w b x W' := ⟨range_later h.r g h.lt, h.g.then g, Nat.lt_of_lt_of_le h.lt g.size⟩
theorem HC.drew {w W : World} {b : Nat} {x : List UInt8} (h : HC w b x W) : HC w b x W.drew := h.later (Below.refl _ _).drew
theorem HC.start {w w1 : World} {x : List UInt8} (g : Grows w w1) (hx : Hid (x.length = 8)) : HC w w1.heap.size x ((w1.alloc zero8).setCells w1.heap.size 0 (bc x)) := by
  refine ⟨range_set hx (there_zero w1), grows_set (g.alloc g.size _) g.size, ?_⟩
  have := (grows_set (cs := bc x) (o := 0) (Below.refl 0 (w1.alloc zero8)) (Nat.zero_le w1.heap.size)).size
  exact Nat.lt_of_lt_of_le (by simp) this

attribute [local go_sem] arr8
set_option linter.unusedSimpArgs false in
set_option maxHeartbeats 1000000 in
theorem check_yes (ky m x : List UInt8) (w : World) (hk : ky.length ≤ 100000) (hm : m.length ≤ 100000) (hx : x.length = 8) (_h1 : ky ≠ []) (h2 : ky.isEmpty = false) :
    Calls Try.prog 18 #[str ky, str m, str x] w fun e w' => e = .returned (.bool (decide (x = dig (marked ky m)))) ∧ Grows w w' := by
    obtain ⟨D, hD⟩ : ∃ D, dig (marked ky m) = D := ⟨_, rfl⟩
    have hs := Lib.hid (dig_length (marked ky m))
    rw [hD] at hs ⊢
    go_enter Try.func18, Try.ntmps18
    go_wp2_with fail
    refine (parse_yes x _ hx).mono ?_
    rintro e w1 ⟨rfl, g1⟩
    have hX := Lib.hid hx
    clear hx
    go_wp2_with (first | (refine store8 rfl _ _ rfl rfl rfl hX (there_zero _) ?_))
    have C0 := HC.start g1 hX
    generalize (w1.alloc zero8).setCells w1.heap.size 0 (bc x) = W at *
    generalize w1.heap.size = b at *
    refine wp_region_noPanic ?_
    refine wp_region_held_drew (S := fun W => HC w b x W) (by kernel_rfl) C0.drew (fun hHeld => ?_)
    refine wpAnyT_begin [0, 1, 2, 3, 4, 5, 6, 7, 8] (by kernel_rfl) (by kernel_rfl) ?_
    refine wpAnyT_take (oi := ⟨some 14, Op.move (Operand.tmp 8), 4, _, _, none⟩) (v := .bool true) rfl (fun _ _ _ h => h) (by rfl) (by assumption) (fun wS hSw => ?_) ?_
    · clear hSw; go_simp
    simp only [Act.put, List.setIfInBounds_toArray, List.set_cons_zero, List.set_cons_succ]
    refine wpAnyT_take (oi := ⟨some 15, Op.move (Operand.tmp 14), 4, _, _, none⟩) (v := .bool true) rfl (fun _ _ _ h => h) (by rfl) (by assumption) (fun wS hSw => ?_) ?_
    · clear hSw; go_simp
    simp only [Act.put, List.setIfInBounds_toArray, List.set_cons_zero, List.set_cons_succ]
    refine wpAnyT_take (oi := ⟨some 16, Op.move (Operand.tmp 0), 9, _, _, some (1, true)⟩) (v := .string ⟨ky.toArray⟩) rfl (fun _ _ _ h => h) (by rfl) (by assumption) (fun wS hSw => ?_) ?_
    · clear hSw; go_simp
    simp only [Act.put, List.setIfInBounds_toArray, List.set_cons_zero, List.set_cons_succ]
    refine wpAnyT_take (oi := ⟨some 17, Op.binOp BinOp.neq 9 (Operand.tmp 16) (Operand.const (Value.string { data := #[] })) 9, 4, _, _, some (1, true)⟩) (v := .bool true) rfl (fun _ _ _ h => h) (by rfl) (by assumption) (fun wS hSw => ?_) ?_
    · clear hSw; go_simp
    simp only [Act.put, List.setIfInBounds_toArray, List.set_cons_zero, List.set_cons_succ]
    refine wpAnyT_take (oi := ⟨some 18, Op.pick (Operand.tmp 15) (Operand.tmp 17) (Operand.const (Value.bool false)), 4, _, _, none⟩) (v := .bool true) rfl (fun _ _ _ h => h) (by rfl) (by assumption) (fun wS hSw => ?_) ?_
    · clear hSw; go_simp
    simp only [Act.put, List.setIfInBounds_toArray, List.set_cons_zero, List.set_cons_succ]
    refine wpAnyT_take (oi := ⟨some 19, Op.move (Operand.tmp 18), 4, _, _, none⟩) (v := .bool true) rfl (fun _ _ _ h => h) (by rfl) (by assumption) (fun wS hSw => ?_) ?_
    · clear hSw; go_simp
    simp only [Act.put, List.setIfInBounds_toArray, List.set_cons_zero, List.set_cons_succ]
    refine wpAnyT_take (oi := ⟨some 20, Op.load 52 (Operand.tmp 7), 52, _, _, some (5, true)⟩) (v := agg8 x) rfl (fun _ _ _ h => h) (by rfl) (by assumption) (fun wS hSw => exec8 _ rfl rfl hX (HC.r hSw)) ?_
    simp only [Act.put, List.setIfInBounds_toArray, List.set_cons_zero, List.set_cons_succ]
    refine wpAnyT_take (oi := ⟨some 21, Op.move (Operand.tmp 0), 9, _, _, some (5, true)⟩) (v := .string ⟨ky.toArray⟩) rfl (fun _ _ _ h => h) (by rfl) (by assumption) (fun wS hSw => ?_) ?_
    · clear hSw; go_simp
    simp only [Act.put, List.setIfInBounds_toArray, List.set_cons_zero, List.set_cons_succ]
    refine wpAnyT_take (oi := ⟨some 22, Op.move (Operand.tmp 1), 9, _, _, some (5, true)⟩) (v := .string ⟨m.toArray⟩) rfl (fun _ _ _ h => h) (by rfl) (by assumption) (fun wS hSw => ?_) ?_
    · clear hSw; go_simp
    simp only [Act.put, List.setIfInBounds_toArray, List.set_cons_zero, List.set_cons_succ]
    refine wpAnyT_end ?_
    refine wpAnyH_listed #[true, true, true, true, true, true, true, true, true, false, false, false, false] (by kernel_rfl) ?_
    refine wpAnyH_ready (rs := [9]) (by kernel_rfl) (by simp) ?_
    refine AllReadyH.cons (o := ⟨some 23, Op.call { callee := Callee.value (Operand.func 36), args := #[Operand.tmp 21, Operand.tmp 22], argTypes := #[9, 9] }, 52, _, _, some (5, true)⟩) rfl (fun K hK => ?_) AllReadyH.nil
    go_simp
    go_at_call 36
    refine (sign_any ky m _ hk hm).mono ?_
    rintro e w2 ⟨rfl, g2⟩
    have C1 := C0.drew.later g2
    rw [hD]
    go_wp2_with fail
    clear hHeld
    refine hK.out _ _ (C1) (fun hHeld => ?_)
    clear hK K
    try simp only [Act.put, List.setIfInBounds_toArray, List.set_cons_zero, List.set_cons_succ]
    refine wpAnyT_begin [10, 11, 12] (by kernel_rfl) (by kernel_rfl) ?_
    refine wpAnyT_take (oi := ⟨some 24, Op.binOp BinOp.eql 52 (Operand.tmp 20) (Operand.tmp 23) 52, 4, _, _, some (5, true)⟩) (v := .bool (x == D)) rfl (fun _ _ _ h => h) (by rfl) (by assumption) (fun wS hSw => exec_eql8 _ _ rfl rfl rfl hX hs) ?_
    simp only [Act.put, List.setIfInBounds_toArray, List.set_cons_zero, List.set_cons_succ]
    refine wpAnyT_take (oi := ⟨some 25, Op.pick (Operand.tmp 19) (Operand.tmp 24) (Operand.const (Value.bool false)), 4, _, _, none⟩) (v := .bool (x == D)) rfl (fun _ _ _ h => h) (by rfl) (by assumption) (fun wS hSw => ?_) ?_
    · clear hSw; go_simp
    simp only [Act.put, List.setIfInBounds_toArray, List.set_cons_zero, List.set_cons_succ]
    refine wpAnyT_take (oi := ⟨some 6, Op.assign (Operand.tmp 25), 4, _, _, none⟩) (v := .bool (x == D)) rfl (fun _ _ _ h => h) (by rfl) (by assumption) (fun wS hSw => ?_) ?_
    · clear hSw; go_simp
    simp only [Act.put, List.setIfInBounds_toArray, List.set_cons_zero, List.set_cons_succ]
    refine wpAnyT_end ?_
    refine wpAnyH_done (by kernel_rfl) ?_ _
    refine NoPanic.normal ?_
    go_wp2
    go_ret
    exact ⟨by rw [eq_lists]; rfl, C1.g⟩

set_option maxHeartbeats 1000000 in
theorem check_nil (m x : List UInt8) (w : World) (hx : x.length = 8) :
    Calls Try.prog 18 #[str [], str m, str x] w fun e w' => e = .returned (.bool false) ∧ Grows w w' := by
  go_enter Try.func18, Try.ntmps18
  go_wp2_with fail
  refine (parse_yes x _ hx).mono ?_
  rintro e w1 ⟨rfl, g1⟩
  have hX := Lib.hid hx
  clear hx
  go_wp2_with (first | (refine store8 rfl _ _ rfl rfl rfl hX (there_zero _) ?_))
  have C0 := HC.start g1 hX
  generalize (w1.alloc zero8).setCells w1.heap.size 0 (bc x) = W at *
  go_region
  all_goals (go_wp2; go_ret; exact ⟨rfl, by first | exact C0.drew.g | exact C0.g⟩)

set_option maxHeartbeats 1000000 in
theorem check_no (k m x : List UInt8) (w : World) (hx : x.length ≠ 8) :
    Calls Try.prog 18 #[str k, str m, str x] w fun e w' => e = .returned (.bool false) ∧ Grows w w' := by
  have hX := Lib.hid (show [(0 : UInt8), 0, 0, 0, 0, 0, 0, 0].length = 8 from rfl)
  go_enter Try.func18, Try.ntmps18
  go_wp2_with fail
  refine (parse_no x _ hx).mono ?_
  rintro e w1 ⟨rfl, g1⟩
  go_wp2_with (first | (refine store8 rfl _ _ rfl rfl rfl hX (there_zero _) ?_))
  have C0 := HC.start g1 hX
  generalize (w1.alloc zero8).setCells w1.heap.size 0 (bc [0, 0, 0, 0, 0, 0, 0, 0]) = W at *
  go_region
  all_goals (go_wp2; go_ret; exact ⟨rfl, by first | exact C0.drew.g | exact C0.g⟩)

theorem check_any (k m x : List UInt8) (w : World) (hk : k.length ≤ 100000) (hm : m.length ≤ 100000) :
    Calls Try.prog 18 #[str k, str m, str x] w fun e w' => e = .returned (.bool (chk k m x)) ∧ Grows w w' := by
  by_cases hx : x.length = 8
  · rcases k with _ | ⟨c, k⟩
    · rw [chk_nil]; exact check_nil m x w hx
    · rw [chk_cons]; exact check_yes (c :: k) m x w hk hm hx (by simp) rfl
  · have e : chk k m x = false := by
      unfold chk
      refine decide_eq_false fun h => hx ?_
      rw [h.2, dig_length]
    rw [e]; exact check_no k m x w hx

end Go.Proofs.Ytmgkbkpfhpkbcaa
