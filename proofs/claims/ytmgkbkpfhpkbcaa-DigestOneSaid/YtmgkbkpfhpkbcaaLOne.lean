/- The law DigestOne: its walk. -/
import Derived.Test.YtmgkbkpfhpkbcaaLOf
namespace Go.Proofs.Ytmgkbkpfhpkbcaa
open Go.RowKit Go.Lib

attribute [local go_sem] str

/-- A byte that is another one. -/
def oth (x : UInt8) (c : Nat) : UInt8 := UInt8.ofNat (x.toNat ^^^ max c 1)
theorem oth_val (x : UInt8) (c : Nat) (hc : c < 256) : bits .xor .u8 (x.toNat : Int) ((max c 1 : Nat) : Int) = ((oth x c).toNat : Int) := by
  have hx := x.toNat_lt
  have hm : max c 1 < 256 := by omega
  unfold oth
  generalize max c 1 = m at *
  have h1 : (BitVec.ofInt 8 (x.toNat : Int)).toNat = x.toNat := by
    rw [BitVec.ofInt_natCast, BitVec.toNat_ofNat]; exact Nat.mod_eq_of_lt (by omega)
  have h2 : (BitVec.ofInt 8 (m : Int)).toNat = m := by
    rw [BitVec.ofInt_natCast, BitVec.toNat_ofNat]; exact Nat.mod_eq_of_lt (by omega)
  have h3 : x.toNat ^^^ m < 2 ^ 8 := Nat.xor_lt_two_pow (by omega) (by omega)
  show IntKind.u8.wrap ((BitVec.ofInt 8 (x.toNat : Int) ^^^ BitVec.ofInt 8 (m : Int)).toNat : Int) = _
  rw [BitVec.toNat_xor, h1, h2, UInt8.toNat_ofNat_of_lt' h3]
  generalize x.toNat ^^^ m = z at *
  rw [IntKind.wrap_u8]
  omega
theorem oth_ne (x : UInt8) (c : Nat) (hc : c < 256) : oth x c ≠ x := by
  intro h
  have hx := x.toNat_lt
  have hm : max c 1 < 256 := by omega
  have h0 : max c 1 ≠ 0 := by omega
  unfold oth at h
  generalize max c 1 = m at *
  have h3 : x.toNat ^^^ m < 2 ^ 8 := Nat.xor_lt_two_pow (by omega) (by omega)
  have e := congrArg UInt8.toNat h
  rw [UInt8.toNat_ofNat_of_lt' h3] at e
  have e2 : x.toNat ^^^ (x.toNat ^^^ m) = x.toNat ^^^ x.toNat := by rw [e]
  rw [← Nat.xor_assoc, Nat.xor_self, Nat.zero_xor] at e2
  exact h0 e2

theorem set_split (q : List UInt8) (k : Nat) (y : UInt8) (h : k < q.length) : q.set k y = q.take k ++ y :: q.drop (k + 1) := by
  rw [List.set_eq_take_append_cons_drop, if_pos h]
theorem split_at (q : List UInt8) (k : Nat) (h : k < q.length) : q = q.take k ++ q[k] :: q.drop (k + 1) := by
  rw [List.getElem_cons_drop, List.take_append_drop]
/-- Whatever stands ahead and behind. -/
theorem dig_set (a b q : List UInt8) (k : Nat) (y : UInt8) (h : k < q.length) (hy : y ≠ q[k]) : dig (a ++ q ++ b) ≠ dig (a ++ q.set k y ++ b) := by
  rw [set_split q k y h]
  have e := split_at q k h
  generalize q.take k = p, q[k] = x, q.drop (k + 1) = r at *
  subst e
  have := dig_one (a ++ p) (r ++ b) x y (Ne.symm hy)
  simpa using this

set_option linter.unusedSimpArgs false in
set_option maxHeartbeats 1000000 in
theorem law_one (s : List UInt8) (at' c : Nat) (w : World) (hs : (s.length : Int) ≤ 9223372036854775807) (ha : at' < 65536) (hc : c < 256) :
    Calls Try.prog 5 #[str s, .int .u16 (at' : Int), .int .u8 (c : Int)] w fun e w' => e = .returned (.bool true) ∧ Grows w w' := by
  go_enter Try.func5, Try.ntmps5
  go_wp2_with fail
  refine (sane _).mono ?_; rintro e w1 ⟨rfl, g⟩; go_wp2_with fail
  refine (cut_any s _ hs).mono ?_; rintro e w2 ⟨rfl, rfl⟩
  have h1 : (s.take 200).length ≤ 200 := by rw [List.length_take]; omega
  generalize s.take 200 = q at *
  clear hs
  rcases q with _ | ⟨x0, q0⟩
  · go_wp2_with fail
    go_ret
    exact ⟨rfl, g⟩
  · generalize hq' : x0 :: q0 = q at *
    have hq : 0 < q.length := by rw [← hq']; simp
    clear hq'
    have hlt : at' % q.length < q.length := Nat.mod_lt _ hq
    have hm : ((at' : Int)).tmod (q.length : Int) = ((at' % q.length : Nat) : Int) := by
      rw [Int.tmod_eq_emod_of_nonneg (by omega)]; rfl
    generalize at' % q.length = k at *
    have HO := Lib.hid (oth_val q[k] c hc)
    have HN := Lib.hid (oth_ne q[k] c hc)
    have b1 : (0 : Int) ≤ (k : Int) := by omega
    have b2 : (k : Int) ≤ (q.length : Int) := by omega
    have b3 : (k : Int) + 1 ≤ (q.length : Int) := by omega
    have b7 : (k : Int) < (q.length : Int) := by omega
    have b4 : IntKind.i64.wrap ((k : Int) + 1) = (k : Int) + 1 := IntWalk.i64_in _ (by omega)
    have b5 : ((k : Int) + 1).toNat = k + 1 := by omega
    have b6 : (0 : Int) ≤ (k : Int) + 1 := by omega
    have hmx : (if (c : Int) < 1 then (1 : Int) else (c : Int)) = ((max c 1 : Nat) : Int) := by split <;> omega
    have HX := put_back q k (oth q[k] c) hlt
    have hlx : (ByteArray.extract ⟨q.toArray⟩ 0 k).size = k := by rw [ByteArray.size_extract]; show min k q.toArray.size - 0 = k; simp; omega
    have hly : (ByteArray.extract ⟨q.toArray⟩ (k + 1) q.length).size = q.length - (k + 1) := by rw [ByteArray.size_extract]; show min q.length q.toArray.size - (k + 1) = _; simp
    have CV : Hid (∀ (W' : World) (b : Nat), W'.cell? ⟨b, 0, none⟩ = some (.int .u8 ((oth q[k] c).toNat : Int)) → (convert 32 9 (.slice (some ⟨b, 0, none⟩) 1 1)).run Try.prog W' = .ok (.string ⟨[oth q[k] c].toArray⟩) W') := Lib.hid (fun W' b h =>
      run_convert_bytes_back (P := Try.prog) W' 32 9 5 ⟨b, 0, none⟩ 1 [oth q[k] c] Try.underlying32 Try.underlying5 Try.underlying9 (fun j hj => by
        obtain rfl : j = 0 := by simpa using hj
        rw [Addr.add_mid, h, List.getElem_cons_zero]))
    go_wp2_with fail
    refine wp_region_noPanic ?_
    refine wp_region_held_drew (S := fun W => Grows w W) (by kernel_rfl) g.drew (fun hHeld => ?_)
    refine wpAnyT_begin [0, 1, 2, 3, 4, 5, 6, 7, 8, 12, 13, 14, 15] (by kernel_rfl) (by kernel_rfl) ?_
    refine wpAnyT_take (oi := ⟨some 22, Op.move (Operand.tmp 0), 9, _, _, none⟩) (v := .string ⟨q.toArray⟩) rfl (fun _ _ _ h => h) (by rfl) (by assumption) (fun wS hSw => ?_) ?_
    · clear hSw; go_simp <;> omega
    simp only [Act.put, List.setIfInBounds_toArray, List.set_cons_zero, List.set_cons_succ]
    refine wpAnyT_take (oi := ⟨some 23, Op.move (Operand.tmp 8), 3, _, _, none⟩) (v := .int .i64 (k : Int)) rfl (fun _ _ _ h => h) (by rfl) (by assumption) (fun wS hSw => ?_) ?_
    · clear hSw; go_simp <;> omega
    simp only [Act.put, List.setIfInBounds_toArray, List.set_cons_zero, List.set_cons_succ]
    refine wpAnyT_take (oi := ⟨some 24, Op.slice 9 (Operand.tmp 22) none (some (Operand.tmp 23)) none, 9, _, _, none⟩) (v := .string (ByteArray.extract ⟨q.toArray⟩ 0 k)) rfl (fun _ _ _ h => h) (by rfl) (by assumption) (fun wS hSw => ?_) ?_
    · clear hSw; go_simp <;> omega
    simp only [Act.put, List.setIfInBounds_toArray, List.set_cons_zero, List.set_cons_succ]
    refine wpAnyT_take (oi := ⟨some 25, Op.move (Operand.tmp 0), 9, _, _, none⟩) (v := .string ⟨q.toArray⟩) rfl (fun _ _ _ h => h) (by rfl) (by assumption) (fun wS hSw => ?_) ?_
    · clear hSw; go_simp <;> omega
    simp only [Act.put, List.setIfInBounds_toArray, List.set_cons_zero, List.set_cons_succ]
    refine wpAnyT_take (oi := ⟨some 26, Op.move (Operand.tmp 8), 3, _, _, none⟩) (v := .int .i64 (k : Int)) rfl (fun _ _ _ h => h) (by rfl) (by assumption) (fun wS hSw => ?_) ?_
    · clear hSw; go_simp <;> omega
    simp only [Act.put, List.setIfInBounds_toArray, List.set_cons_zero, List.set_cons_succ]
    refine wpAnyT_take (oi := ⟨some 27, Op.index 9 (Operand.tmp 25) (Operand.tmp 26), 5, _, _, none⟩) (v := .int .u8 (q[k].toNat : Int)) rfl (fun _ _ _ h => h) (by rfl) (by assumption) (fun wS hSw => ?_) ?_
    · clear hSw; go_simp; rfl
    simp only [Act.put, List.setIfInBounds_toArray, List.set_cons_zero, List.set_cons_succ]
    refine wpAnyT_take (oi := ⟨some 28, Op.move (Operand.tmp 2), 5, _, _, none⟩) (v := .int .u8 (c : Int)) rfl (fun _ _ _ h => h) (by rfl) (by assumption) (fun wS hSw => ?_) ?_
    · clear hSw; go_simp <;> omega
    simp only [Act.put, List.setIfInBounds_toArray, List.set_cons_zero, List.set_cons_succ]
    refine wpAnyT_take (oi := ⟨some 29, Op.call { callee := Callee.builtin Builtin.max, args := #[Operand.tmp 28, Operand.const (Value.int IntKind.u8 1)], argTypes := #[5, 5] }, 5, _, _, none⟩) (v := .int .u8 ((max c 1 : Nat) : Int)) rfl (fun _ _ _ h => h) (by rfl) (by assumption) (fun wS hSw => ?_) ?_
    · clear hSw; go_simp
    simp only [Act.put, List.setIfInBounds_toArray, List.set_cons_zero, List.set_cons_succ]
    refine wpAnyT_take (oi := ⟨some 30, Op.binOp BinOp.xor 5 (Operand.tmp 27) (Operand.tmp 29) 5, 5, _, _, none⟩) (v := .int .u8 ((oth q[k] c).toNat : Int)) rfl (fun _ _ _ h => h) (by rfl) (by assumption) (fun wS hSw => ?_) ?_
    · clear hSw; go_simp; exact HO.out
    simp only [Act.put, List.setIfInBounds_toArray, List.set_cons_zero, List.set_cons_succ]
    refine wpAnyT_take (oi := ⟨some 34, Op.move (Operand.tmp 0), 9, _, _, none⟩) (v := .string ⟨q.toArray⟩) rfl (fun _ _ _ h => h) (by rfl) (by assumption) (fun wS hSw => ?_) ?_
    · clear hSw; go_simp <;> omega
    simp only [Act.put, List.setIfInBounds_toArray, List.set_cons_zero, List.set_cons_succ]
    refine wpAnyT_take (oi := ⟨some 35, Op.move (Operand.tmp 8), 3, _, _, none⟩) (v := .int .i64 (k : Int)) rfl (fun _ _ _ h => h) (by rfl) (by assumption) (fun wS hSw => ?_) ?_
    · clear hSw; go_simp <;> omega
    simp only [Act.put, List.setIfInBounds_toArray, List.set_cons_zero, List.set_cons_succ]
    refine wpAnyT_take (oi := ⟨some 36, Op.binOp BinOp.add 3 (Operand.tmp 35) (Operand.const (Value.int IntKind.i64 1)) 3, 3, _, _, none⟩) (v := .int .i64 ((k : Int) + 1)) rfl (fun _ _ _ h => h) (by rfl) (by assumption) (fun wS hSw => ?_) ?_
    · clear hSw; go_simp <;> omega
    simp only [Act.put, List.setIfInBounds_toArray, List.set_cons_zero, List.set_cons_succ]
    refine wpAnyT_take (oi := ⟨some 37, Op.slice 9 (Operand.tmp 34) (some (Operand.tmp 36)) none none, 9, _, _, none⟩) (v := .string (ByteArray.extract ⟨q.toArray⟩ (k + 1) q.length)) rfl (fun _ _ _ h => h) (by rfl) (by assumption) (fun wS hSw => ?_) ?_
    · clear hSw; go_simp <;> omega
    simp only [Act.put, List.setIfInBounds_toArray, List.set_cons_zero, List.set_cons_succ]
    refine wpAnyT_end ?_
    refine wpAnyH_listed #[true, true, true, true, true, true, true, true, true, false, false, false, true, true, true, true, false, false] (by kernel_rfl) ?_
    refine wpAnyH_ready (rs := [9]) (by kernel_rfl) (by simp) ?_
    refine AllReadyH.cons (o := ⟨some 31, Op.buildSlice 32 1 #[(0, Operand.tmp 30)], 32, _, _, none⟩) rfl (fun K hK => ?_) AllReadyH.nil
    go_simp
    clear hHeld
    refine hK.out _ _ ((g.alloc g.size _).drew) (fun hHeld => ?_)
    clear hK K
    try simp only [Act.put, List.setIfInBounds_toArray, List.set_cons_zero, List.set_cons_succ]
    refine wpAnyH_ready (rs := [10]) (by kernel_rfl) (by simp) ?_
    refine AllReadyH.cons (o := ⟨some 32, Op.convert 32 9 (Operand.tmp 31), 9, _, _, none⟩) rfl (fun K hK => ?_) AllReadyH.nil
    go_simp
    rw [CV.out _ _ (by rw [World.cell?_drew, World.cell?_alloc_new]; rfl)]
    simp only [Result.andThen]
    rw [Oper.upon_value]
    clear hHeld
    refine hK.out _ _ ((g.alloc g.size _).drew) (fun hHeld => ?_)
    clear hK K
    try simp only [Act.put, List.setIfInBounds_toArray, List.set_cons_zero, List.set_cons_succ]
    refine wpAnyT_begin [11, 16, 17] (by kernel_rfl) (by kernel_rfl) ?_
    refine wpAnyT_take (oi := ⟨some 33, Op.binOp BinOp.add 9 (Operand.tmp 24) (Operand.tmp 32) 9, 9, _, _, none⟩) (v := .string (ByteArray.extract ⟨q.toArray⟩ 0 k ++ ⟨[oth q[k] c].toArray⟩)) rfl (fun _ _ _ h => h) (by rfl) (by assumption) (fun wS hSw => ?_) ?_
    · clear hSw; go_simp <;> omega
    simp only [Act.put, List.setIfInBounds_toArray, List.set_cons_zero, List.set_cons_succ]
    refine wpAnyT_take (oi := ⟨some 38, Op.binOp BinOp.add 9 (Operand.tmp 33) (Operand.tmp 37) 9, 9, _, _, none⟩) (v := .string ⟨(q.set k (oth q[k] c)).toArray⟩) rfl (fun _ _ _ h => h) (by rfl) (by assumption) (fun wS hSw => ?_) ?_
    · clear hSw; go_simp <;> omega
    simp only [Act.put, List.setIfInBounds_toArray, List.set_cons_zero, List.set_cons_succ]
    refine wpAnyT_take (oi := ⟨some 9, Op.assign (Operand.tmp 38), 9, _, _, none⟩) (v := .string ⟨(q.set k (oth q[k] c)).toArray⟩) rfl (fun _ _ _ h => h) (by rfl) (by assumption) (fun wS hSw => ?_) ?_
    · clear hSw; go_simp <;> omega
    simp only [Act.put, List.setIfInBounds_toArray, List.set_cons_zero, List.set_cons_succ]
    refine wpAnyT_end ?_
    refine wpAnyH_done (by kernel_rfl) ?_ _
    refine NoPanic.normal ?_
    have gW := hHeld
    generalize (w1.alloc (.cells #[.int .u8 ((oth q[k] c).toNat : Int)] 5)).drew = W at *
    clear hHeld CV HX hlx hly hmx HO g
    have hl2 : (q.set k (oth q[k] c)).length = q.length := List.length_set
    have n1 : dig q ≠ dig (q.set k (oth q[k] c)) := by simpa using dig_set [] [] q k _ hlt HN.out
    have n2 : dig (1 :: (word [(97 : UInt8)].length ++ [97] ++ q)) ≠ dig (1 :: (word [(97 : UInt8)].length ++ [97] ++ q.set k (oth q[k] c))) := by
      have h := dig_set (1 :: (word [(97 : UInt8)].length ++ [97])) [] q k _ hlt HN.out
      rw [List.append_nil, List.append_nil] at h
      exact h
    have n3 : dig (marked [97] q) ≠ dig (marked [97] (q.set k (oth q[k] c))) := dig_set (2 :: (word [(97 : UInt8)].length ++ [97])) [97] q k _ hlt HN.out
    have n4 : rootL [q] ≠ rootL [q.set k (oth q[k] c)] := by
      show dig (3 :: q) ≠ dig (3 :: _)
      simpa using dig_set [3] [] q k _ hlt HN.out
    generalize q.set k (oth q[k] c) = q' at *
    have l1 : q.length ≤ 1000 := by omega
    have l2 : q'.length ≤ 1000 := by omega
    have C1 : ∀ W, Calls Try.prog 12 #[.string ⟨q.toArray⟩] W fun e w' => e = .returned (.string ⟨(dig q).toArray⟩) ∧ Grows W w' := fun W => of1_any q W (by omega)
    have C2 : ∀ W, Calls Try.prog 12 #[.string ⟨q'.toArray⟩] W fun e w' => e = .returned (.string ⟨(dig q').toArray⟩) ∧ Grows W w' := fun W => of1_any q' W (by omega)
    have C3 : ∀ W, Calls Try.prog 14 #[.string ⟨#[97]⟩, .string ⟨q.toArray⟩] W fun e w' => e = .returned (.string ⟨(dig (1 :: (word [(97 : UInt8)].length ++ [97] ++ q))).toArray⟩) ∧ Grows W w' := fun W => chain_any [97] q W (by decide) (by omega)
    have C4 : ∀ W, Calls Try.prog 14 #[.string ⟨#[97]⟩, .string ⟨q'.toArray⟩] W fun e w' => e = .returned (.string ⟨(dig (1 :: (word [(97 : UInt8)].length ++ [97] ++ q'))).toArray⟩) ∧ Grows W w' := fun W => chain_any [97] q' W (by decide) (by omega)
    have C5 : ∀ W, Calls Try.prog 20 #[.string ⟨#[97]⟩, .string ⟨q.toArray⟩] W fun e w' => e = .returned (.string ⟨(dig (marked [97] q)).toArray⟩) ∧ Grows W w' := fun W => mark_any [97] q W (by decide) (by omega)
    have C6 : ∀ W, Calls Try.prog 20 #[.string ⟨#[97]⟩, .string ⟨q'.toArray⟩] W fun e w' => e = .returned (.string ⟨(dig (marked [97] q')).toArray⟩) ∧ Grows W w' := fun W => mark_any [97] q' W (by decide) (by omega)
    have C7 : ∀ W : World, Calls Try.prog 21 #[.slice (some ⟨W.heap.size, 0, none⟩) 1 1] (W.alloc (.cells #[.string ⟨q.toArray⟩] 9)) fun e w' => e = .returned (.string ⟨(rootL [q]).toArray⟩) ∧ Grows (W.alloc (.cells #[.string ⟨q.toArray⟩] 9)) w' := fun W =>
      root_any _ [q] _ (Row.made W [q] (C := #[.string ⟨q.toArray⟩]) (T := 9) rfl rfl (by simp)) (by simpa using l1) (by simp)
    have C8 : ∀ W : World, Calls Try.prog 21 #[.slice (some ⟨W.heap.size, 0, none⟩) 1 1] (W.alloc (.cells #[.string ⟨q'.toArray⟩] 9)) fun e w' => e = .returned (.string ⟨(rootL [q']).toArray⟩) ∧ Grows (W.alloc (.cells #[.string ⟨q'.toArray⟩] 9)) w' := fun W =>
      root_any _ [q'] _ (Row.made W [q'] (C := #[.string ⟨q'.toArray⟩]) (T := 9) rfl rfl (by simp)) (by simpa using l2) (by simp)
    generalize dig q = D1 at *
    generalize dig q' = E1 at *
    generalize dig (1 :: (word [(97 : UInt8)].length ++ [97] ++ q)) = D2 at *
    generalize dig (1 :: (word [(97 : UInt8)].length ++ [97] ++ q')) = E2 at *
    generalize dig (marked [97] q) = D3 at *
    generalize dig (marked [97] q') = E3 at *
    generalize rootL [q] = D4 at *
    generalize rootL [q'] = E4 at *
    have X1 := Lib.hid C1; have X2 := Lib.hid C2; have X3 := Lib.hid C3; have X4 := Lib.hid C4; have X5 := Lib.hid C5; have X6 := Lib.hid C6; have X7 := Lib.hid C7; have X8 := Lib.hid C8
    have m1 : (D1 == E1) = false := by simpa using n1
    have m2 : (D2 == E2) = false := by simpa using n2
    have m3 : (D3 == E3) = false := by simpa using n3
    have m4 : (D4 == E4) = false := by simpa using n4
    have k1 : (D1 != E1) = true := by simpa using n1
    have k2 : (D2 != E2) = true := by simpa using n2
    have k3 : (D3 != E3) = true := by simpa using n3
    have k4 : (D4 != E4) = true := by simpa using n4
    clear C1 C2 C3 C4 C5 C6 C7 C8 n1 n2 n3 n4 hl2 HN hm b1 b2 b3 b4 b5 b6 b7
    go_wp2_with fail
    refine (X1.out _).mono ?_; rintro e w2 ⟨rfl, g2⟩; have g := gW.then g2; clear gW g2; go_wp2_with fail
    refine (X2.out _).mono ?_; rintro e w3 ⟨rfl, g2⟩; have g := g.then g2; clear g2; go_wp2_with fail
    refine (X3.out _).mono ?_; rintro e w4 ⟨rfl, g2⟩; have g := g.then g2; clear g2; go_wp2_with fail
    refine (X4.out _).mono ?_; rintro e w5 ⟨rfl, g2⟩; have g := g.then g2; clear g2; go_wp2_with fail
    refine (X5.out _).mono ?_; rintro e w6 ⟨rfl, g2⟩; have g := g.then g2; clear g2; go_wp2_with fail
    refine (X6.out _).mono ?_; rintro e w7 ⟨rfl, g2⟩; have g := g.then g2; clear g2; go_wp2_with fail
    refine (X7.out _).mono ?_; rintro e w8 ⟨rfl, g2⟩; have g : Grows w _ := Grows.then (g.alloc g.size _) g2; clear g2; go_wp2_with fail
    refine (X8.out _).mono ?_; rintro e w9 ⟨rfl, g2⟩; have g : Grows w _ := Grows.then (g.alloc g.size _) g2; clear g2; go_wp2_with fail
    go_ret
    exact ⟨rfl, g⟩
end Go.Proofs.Ytmgkbkpfhpkbcaa
