/- What is computed by the digest of several strings, and the reference's digests. -/
import Derived.Test.YtmgkbkpfhpkbcaaOf
import Derived.Test.YtmgkbkpfhpkbcaaHeld
namespace Go.Proofs.Ytmgkbkpfhpkbcaa
open Go.RowKit Go.Lib

theorem Row.made (w : World) (l : List (List UInt8)) {T : TypeId} {C : Array Value} {n : Nat} (hC : C = (strs l).toArray) (hn : n = l.length) (h9 : l.length ≤ 1000) : Row (w.alloc (.cells C T)) (.slice (some ⟨w.heap.size, 0, none⟩) n n) (strs l) := by
  refine ⟨_, n, by rw [strs_length, hn], by rw [strs_length, hn]; exact Nat.le_refl _, by omega, .inr ⟨_, _, rfl, fun i u hu => ?_⟩⟩
  rw [World.cell?_alloc_new, hC]
  simpa using hu

theorem string_eq (a b : List UInt8) : (⟨a.toArray⟩ : ByteArray) = ⟨b.toArray⟩ ↔ a = b := by
  constructor
  · intro h
    have h := congrArg (fun x : ByteArray => x.data.toList) h
    simpa using h
  · rintro rfl; rfl

attribute [local go_sem] str

set_option maxHeartbeats 400000 in
theorem of1_any (s : List UInt8) (w : World) (h : s.length ≤ 100000) :
    Calls Try.prog 12 #[str s] w fun e w' => e = .returned (str (dig s)) ∧ Grows w w' := by
  go_enter Try.func12, Try.ntmps12
  go_wp2_with fail
  refine (of_any _ [s] _ (Row.made _ [s] (by simp only [strs, List.map_cons, List.map_nil]; rfl) (by simp only [List.length_cons, List.length_nil]) (by simp)) (by simp; omega)).mono ?_
  rintro e w1 ⟨rfl, g1⟩
  rw [show [s].flatten = s by simp]
  have g1 : Grows w w1 := Grows.then ((Below.refl _ _).alloc (Nat.le_refl _) _) g1
  go_wp2_with fail
  refine (text_any (dig s) _ (dig_length s)).mono ?_
  rintro e w2 ⟨rfl, g2⟩
  go_wp2_with fail
  go_ret
  exact ⟨rfl, g1.then g2⟩

set_option maxHeartbeats 400000 in
theorem chain_any (b s : List UInt8) (w : World) (hb : b.length ≤ 100000) (hs : s.length ≤ 100000) :
    Calls Try.prog 14 #[str b, str s] w fun e w' => e = .returned (str (dig (1 :: (word b.length ++ b ++ s)))) ∧ Grows w w' := by
  go_enter Try.func14, Try.ntmps14
  go_wp2_with fail
  refine (length_any b _ (by omega)).mono ?_
  rintro e w1 ⟨rfl, g1⟩
  go_wp2_with fail
  refine (of_any _ [[1], word b.length, b, s] _ (Row.made _ [[1], word b.length, b, s] (by simp only [strs, List.map_cons, List.map_nil]; rfl) (by simp only [List.length_cons, List.length_nil]) (by simp)) (by simp [word]; omega)).mono ?_
  rintro e w2 ⟨rfl, g2⟩
  rw [show [[1], word b.length, b, s].flatten = 1 :: (word b.length ++ b ++ s) by simp]
  have g2 : Grows w w2 := Grows.then (g1.alloc g1.size _) g2
  go_wp2_with fail
  refine (text_any _ _ (dig_length _)).mono ?_
  rintro e w3 ⟨rfl, g3⟩
  go_wp2_with fail
  go_ret
  exact ⟨rfl, g2.then g3⟩

/-- What a mark is the digest of. -/
def marked (k m : List UInt8) : List UInt8 := 2 :: (word k.length ++ k ++ m ++ k)

set_option maxHeartbeats 400000 in
theorem sign_any (k m : List UInt8) (w : World) (hk : k.length ≤ 100000) (hm : m.length ≤ 100000) :
    Calls Try.prog 36 #[str k, str m] w fun e w' => e = .returned (agg8 (dig (marked k m))) ∧ Grows w w' := by
  go_enter Try.func36, Try.ntmps36
  go_wp2_with fail
  refine (length_any k _ (by omega)).mono ?_
  rintro e w1 ⟨rfl, g1⟩
  have t1 := there_later (there_zero w) g1 (by simp)
  have s1 := g1.size
  have b1 : Grows w w1 := Grows.then ((Below.refl _ _).alloc (Nat.le_refl _) _) g1
  clear g1
  go_wp2_with fail
  refine (of_any _ [[2], word k.length, k, m, k] _ (Row.made _ [[2], word k.length, k, m, k] (by simp only [strs, List.map_cons, List.map_nil]; rfl) (by simp only [List.length_cons, List.length_nil]) (by simp)) (by simp [word]; omega)).mono ?_
  rintro e w2 ⟨rfl, g2⟩
  rw [show [[2], word k.length, k, m, k].flatten = marked k m by simp [marked]]
  have g2 : Grows w1 w2 := Grows.then ((Below.refl _ _).alloc (Nat.le_refl _) _) g2
  have t2 := there_later t1 g2 (by simp at s1; omega)
  have b2 := b1.then g2
  have hs := Lib.hid (dig_length (marked k m))
  obtain ⟨D, hD⟩ : ∃ D, dig (marked k m) = D := ⟨_, rfl⟩
  rw [hD] at hs ⊢
  have HD := Lib.hid hD
  clear b1 t1 g2 hD
  go_wp2_with (first | (refine store8 rfl _ _ rfl rfl rfl hs t2 ?_))
  exact bodyPost_ret (results8 rfl rfl hs (range_set hs t2)) rfl ⟨by rw [HD.out], grows_set b2 (Nat.le_refl _)⟩

set_option maxHeartbeats 400000 in
theorem mark_any (k m : List UInt8) (w : World) (hk : k.length ≤ 100000) (hm : m.length ≤ 100000) :
    Calls Try.prog 20 #[str k, str m] w fun e w' => e = .returned (str (dig (marked k m))) ∧ Grows w w' := by
  go_enter Try.func20, Try.ntmps20
  go_wp2_with fail
  refine (sign_any k m _ hk hm).mono ?_
  rintro e w1 ⟨rfl, g1⟩
  go_wp2_with fail
  refine (text_any _ _ (dig_length _)).mono ?_
  rintro e w2 ⟨rfl, g2⟩
  go_wp2_with fail
  go_ret
  exact ⟨rfl, g1.then g2⟩

/-- What stays while two digests that lie in blocks of the call's own are put together. -/
structure NC (w : World) (l r : List UInt8) (W : World) : Prop where
  r1 : W.rangeAt w.heap.size 0 (bc l)
  r2 : W.rangeAt (w.heap.size + 1) 0 (bc r)
  t3 : W.there (w.heap.size + 1 + 1) 0 8
  g : Grows w W
  size : w.heap.size + 1 + 1 < W.heap.size
theorem NC.later {w W W' : World} {l r : List UInt8} (h : NC w l r W) (g : Grows W W') : NC w l r W' :=
  ⟨range_later h.r1 g (by have := h.size; omega), range_later h.r2 g (by have := h.size; omega), there_later h.t3 g h.size, h.g.then g, by have := h.size; have := g.size; omega⟩
theorem NC.alloc {w W : World} {l r : List UInt8} (h : NC w l r W) (o : Obj) : NC w l r (W.alloc o) := h.later ((Below.refl _ _).alloc (Nat.le_refl _) o)
theorem NC.drew {w W : World} {l r : List UInt8} (h : NC w l r W) : NC w l r W.drew := h.later (Below.refl _ _).drew
theorem NC.start (w : World) (l r : List UInt8) : NC w l r (((w.alloc (.cells (bc l).toArray 52)).alloc (.cells (bc r).toArray 52)).alloc zero8) := by
  have t3 := there_zero ((w.alloc (.cells (bc l).toArray 52)).alloc (.cells (bc r).toArray 52))
  rw [World.size_alloc, World.size_alloc] at t3
  refine ⟨?_, ?_, t3, (((Below.refl _ w).alloc (Nat.le_refl _) _).alloc (by simp) _).alloc (by simp <;> omega) _, by simp <;> omega⟩
  · refine World.rangeAt_alloc (World.rangeAt_alloc (fun j v hv => ?_) _) _
    rw [World.cell?_alloc_new, Nat.zero_add]
    simpa using hv
  · refine World.rangeAt_alloc (fun j v hv => ?_) _
    have := World.cell?_alloc_new (w.alloc (.cells (bc l).toArray 52)) (bc r).toArray 52 (0 + j)
    rw [World.size_alloc] at this
    rw [this, Nat.zero_add]
    simpa using hv

theorem NC.set {w W : World} {l r : List UInt8} (h : NC w l r W) (D : List UInt8) : NC w l r (W.setCells (w.heap.size + 1 + 1) 0 (bc D)) := by
  refine ⟨World.rangeAt_setCells_apart h.r1 _ _ _ (.inl (by omega)), World.rangeAt_setCells_apart h.r2 _ _ _ (.inl (by omega)), World.there_setCells h.t3 _ _ _, grows_set h.g (by omega), ?_⟩
  have := (grows_set (cs := bc D) (o := 0) (Below.refl 0 W) (Nat.zero_le (w.heap.size + 1 + 1))).size
  exact Nat.lt_of_lt_of_le h.size this

theorem there8 {w : World} {b o : Nat} {s : List UInt8} (hs : Hid (s.length = 8)) (h : w.there b o 8) : w.there b o (bc s).toArray.size := by
  have e : (bc s).toArray.size = 8 := by rw [List.size_toArray, bc_length, hs.out]
  rw [e]; exact h
/-- A digest is read, in a region that draws its order. -/
theorem exec8 {op : Oper} {a : Act} {w : World} {b o : Nat} {s : List UInt8} (x : Operand) (ho : op.op = .load 52 x) (hx : a.eval x = .pointer (some ⟨b, o, none⟩)) (hs : Hid (s.length = 8)) (hc : w.rangeAt b o (bc s)) :
    (execOp a.eval op).run Try.prog w = .ok (.value (agg8 s)) w := by
  unfold execOp
  simp only [ho, hx, Instr.loadAt, Instr.sureAddr, Sem.run_bind, Sem.run_pure, Result.andThen_ok, run_loadVar_mid w b o 52 (bc s) _ hc Try.underlying52 rfl (info52' hs.out)]
  rfl

set_option maxHeartbeats 1000000 in
theorem node_any (l r : List UInt8) (w : World) (hl0 : l.length = 8) (hr0 : r.length = 8) :
    Calls Try.prog 41 #[agg8 l, agg8 r] w fun e w' => e = .returned (agg8 (dig (4 :: (l ++ r)))) ∧ Grows w w' := by
  show Calls Try.prog 41 #[.agg (bc l).toArray, .agg (bc r).toArray] w _
  have C0 := NC.start w l r
  have hl := Lib.hid hl0
  have hr := Lib.hid hr0
  have hlen := Lib.hid (show ∀ s ∈ [[4], l, r], (s.length : Int) ≤ 9223372036854775807 by simp; omega)
  have hs := Lib.hid (dig_length (4 :: (l ++ r)))
  have hflat := Lib.hid (show dig [[4], l, r].flatten = dig (4 :: (l ++ r)) by simp)
  obtain ⟨D, hD⟩ : ∃ D, dig (4 :: (l ++ r)) = D := ⟨_, rfl⟩
  rw [hD] at hs hflat ⊢
  clear hD hl0 hr0
  go_enter Try.func41, Try.ntmps41
  go_wp2_with fail
  generalize ((w.alloc (.cells (bc l).toArray 52)).alloc (.cells (bc r).toArray 52)).alloc zero8 = W at *
  refine wp_region_noPanic ?_
  refine wp_region_held_drew (S := fun W => NC w l r W) (by kernel_rfl) C0.drew (fun hHeld => ?_)
  refine wpAnyT_begin [0, 2] (by kernel_rfl) (by kernel_rfl) ?_
  refine wpAnyT_take (oi := ⟨some 5, Op.load 52 (Operand.tmp 2), 52, _, _, none⟩) (v := agg8 l) rfl (fun _ _ _ h => h) (by rfl) (by assumption) (fun wS hSw => exec8 _ rfl rfl hl (NC.r1 hSw)) ?_
  dsimp only [Act.put, List.setIfInBounds_toArray, List.set_cons_zero, List.set_cons_succ]
  refine wpAnyT_take (oi := ⟨some 7, Op.load 52 (Operand.tmp 3), 52, _, _, none⟩) (v := agg8 r) rfl (fun _ _ _ h => h) (by rfl) (by assumption) (fun wS hSw => exec8 _ rfl rfl hr (NC.r2 hSw)) ?_
  dsimp only [Act.put, List.setIfInBounds_toArray, List.set_cons_zero, List.set_cons_succ]
  refine wpAnyT_end ?_
  refine wpAnyH_listed #[true, false, true, false, false, false, false] (by kernel_rfl) ?_
  refine wpAnyH_ready (rs := [1]) (by kernel_rfl) (by simp) ?_
  refine AllReadyH.cons (o := ⟨some 6, Op.call { callee := Callee.value (Operand.func 32), args := #[Operand.tmp 5], argTypes := #[52] }, 9, _, _, none⟩) rfl (fun K hK => ?_) AllReadyH.nil
  go_simp
  go_at_call 32
  refine (text_any l _ hl.out).mono ?_
  rintro e w1 ⟨rfl, g1⟩
  have C1 := C0.drew.later g1
  go_wp2_with fail
  clear hHeld
  refine hK.out _ _ (C1) (fun hHeld => ?_)
  clear hK K
  try dsimp only [Act.put, List.setIfInBounds_toArray, List.set_cons_zero, List.set_cons_succ]
  refine wpAnyH_ready (rs := [3]) (by kernel_rfl) (by simp) ?_
  refine AllReadyH.cons (o := ⟨some 8, Op.call { callee := Callee.value (Operand.func 32), args := #[Operand.tmp 7], argTypes := #[52] }, 9, _, _, none⟩) rfl (fun K hK => ?_) AllReadyH.nil
  go_simp
  go_at_call 32
  refine (text_any r _ hr.out).mono ?_
  rintro e w2 ⟨rfl, g2⟩
  have C2 := C1.later g2
  go_wp2_with fail
  clear hHeld
  refine hK.out _ _ (C2) (fun hHeld => ?_)
  clear hK K
  try dsimp only [Act.put, List.setIfInBounds_toArray, List.set_cons_zero, List.set_cons_succ]
  refine wpAnyH_ready (rs := [4]) (by kernel_rfl) (by simp) ?_
  refine AllReadyH.cons (o := ⟨some 9, Op.buildSlice 28 3 #[(0, Operand.const (Value.string { data := #[4] })), (1, Operand.tmp 6), (2, Operand.tmp 8)], 28, _, _, none⟩) rfl (fun K hK => ?_) AllReadyH.nil
  go_simp
  clear hHeld
  refine hK.out _ _ (C2.alloc _) (fun hHeld => ?_)
  clear hK K
  try dsimp only [Act.put, List.setIfInBounds_toArray, List.set_cons_zero, List.set_cons_succ]
  refine wpAnyH_ready (rs := [5]) (by kernel_rfl) (by simp) ?_
  refine AllReadyH.cons (o := ⟨some 10, Op.call { callee := Callee.value (Operand.func 31), args := #[Operand.tmp 9], argTypes := #[28] }, 52, _, _, none⟩) rfl (fun K hK => ?_) AllReadyH.nil
  go_simp
  go_at_call 31
  refine (of_any _ [[4], l, r] _ (Row.made _ [[4], l, r] (by simp only [strs, List.map_cons, List.map_nil]; rfl) (by simp only [List.length_cons, List.length_nil]) (by simp)) hlen.out).mono ?_
  rintro e w3 ⟨rfl, g3⟩
  have C3 := (C2.alloc _).later g3
  rw [hflat.out]
  go_wp2_with fail
  clear hHeld
  refine hK.out _ _ (C3) (fun hHeld => ?_)
  clear hK K
  try dsimp only [Act.put, List.setIfInBounds_toArray, List.set_cons_zero, List.set_cons_succ]
  refine wpAnyH_ready (rs := [6]) (by kernel_rfl) (by simp) ?_
  refine AllReadyH.cons (o := ⟨none, Op.store 52 (Operand.tmp 4) (Operand.tmp 10), 0, _, _, none⟩) rfl (fun K hK => ?_) AllReadyH.nil
  rw [if_pos (by rfl)]
  refine wp_store_mid 52 _ _ rfl _ _ (bc D).toArray rfl rfl (there8 hs C3.t3) (info52a hs.out) (all_oneCell_toArray (bc_one D)) ?_
  clear hHeld
  refine hK.out _ _ (C3.set D) (fun hHeld => ?_)
  clear hK K
  try dsimp only [Act.put, List.setIfInBounds_toArray, List.set_cons_zero, List.set_cons_succ]
  refine wpAnyH_done (by kernel_rfl) ?_ _
  refine NoPanic.normal ?_
  go_wp2
  exact bodyPost_ret (results8 rfl rfl hs (range_set hs C3.t3)) rfl ⟨rfl, grows_set C3.g (by omega)⟩

end Go.Proofs.Ytmgkbkpfhpkbcaa
